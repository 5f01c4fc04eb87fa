/- Layer 12, ahead: the reference's least. -/
import Derived.Test.YtffnopdpndpngaaMLi
import Derived.Deep.RegionLaw
import Derived.Deep.RegionWith
import Derived.Test.YtffnopdpndpngaaMLh
set_option linter.unusedVariables false
set_option linter.unusedSimpArgs false
namespace Go.Proofs.Ytffnopdpndpngaa.Lh
open Go.RowKit
theorem bounds_I (p i : Int) (hp : 0 ≤ p ∧ p ≤ 8) (hi : 0 ≤ i ∧ i ≤ topI p) (w : World) :
    Calls Try.prog 41 #[.int .i64 p, .int .i64 i] w fun e w' => e = .returned (.tuple #[.int .i64 (loI p i), .int .i64 (hiI p i)]) ∧ Below w.heap.size w w' := by
  have D := bounds_any p.toNat i.toNat (by omega) (by unfold topI at hi; omega) w
  rw [show ((p.toNat : Nat) : Int) = p by omega, show ((i.toNat : Nat) : Int) = i by omega] at D
  exact D
/-- The sum so far. -/
def sumL (l : List B) (F : Int → Int) (d e : Int) (k : Nat) : Int := d + W F (l.take k) + if k = l.length then e else 0
theorem sumL_zero {l : List B} {F : Int → Int} {d e : Int} (h : l ≠ []) : sumL l F d e 0 = d := by
  unfold sumL
  rw [if_neg (fun e => h (List.length_eq_zero_iff.mp e.symm))]
  simp [W]
theorem sumL_mid {l : List B} {F : Int → Int} {d e : Int} {k : Nat} (h : k + 1 < l.length) : sumL l F d e (k + 1) = sumL l F d e k + F l[k].1 * l[k].2 := by
  unfold sumL
  rw [if_neg (by omega), if_neg (by omega), W_take (by omega), Int.mul_comm]
  omega
theorem sumL_last {l : List B} {F : Int → Int} {d e : Int} {k : Nat} (h : k + 1 = l.length) : sumL l F d e (k + 1) = sumL l F d e k + F l[k].1 * l[k].2 + e := by
  unfold sumL
  rw [if_pos h, if_neg (by omega), W_take (by omega), Int.mul_comm]
  omega
set_option maxHeartbeats 4000000 in
theorem least_any (p c s mn mx : Int) (b : B) (r : List B) (hp : 0 ≤ p ∧ p ≤ 8) (ha : Asc (b :: r)) (hpos : Pos (b :: r)) (ht : tot (b :: r) ≤ 1048576) (hr : ∀ x ∈ b :: r, 0 ≤ x.1 ∧ x.1 ≤ topI p) (hmn : 0 ≤ mn ∧ mn ≤ mx) (hmx : mx ≤ 1099511627776) (hlen : (b :: r).length ≤ 500)
    (A : Option Addr) (q : Nat) (w : World) (hL : LS w w.heap.size A (b :: r)) :
    Calls Try.prog 68 #[hV p c s mn mx A (b :: r).length q] w fun e w' => e = .returned (.int .i64 (leastH ⟨p, c, s, mn, mx, b :: r⟩ b r)) ∧ Below w.heap.size w w' := by
  have HR : Hid (leastH ⟨p, c, s, mn, mx, b :: r⟩ b r = sumL (b :: r) (FL p mn b) (mx - mn) (mn - FL p mn b (lastB b r).1) (b :: r).length) := by
    show _ = _
    rw [leastH_W ha]
    unfold sumL
    rw [if_pos rfl, List.take_length]
    show mx - mn + W (FL p mn b) (b :: r) + mn - FL p mn b (lastB b r).1 = _
    omega
  have hF : ∀ x ∈ b :: r, 0 ≤ FL p mn b x.1 ∧ FL p mn b x.1 ≤ 1099511627776 := fun x hx => by
    have := loI_le (p := p) (hr x hx).2
    unfold FL
    split <;> omega
  have hW := fun k => W_small hpos ht hF k
  have hS := fun k (h : k < (b :: r).length) => W_step hpos ht hF h
  have h0 : FL p mn b b.1 = mn := if_pos rfl
  have hN : ∀ k (h : k < (b :: r).length), 0 < k → FL p mn b (b :: r)[k].1 = loI p (b :: r)[k].1 := fun k h hk => if_neg (asc_ne ha h (show 0 < (b :: r).length by simp) (by omega))
  have hlast : ∀ k (h : k < (b :: r).length), k + 1 = (b :: r).length → lastB b r = (b :: r)[k] := fun k h e => by
    rw [lastB_get]
    congr 1
    simp only [List.length_cons] at e
    omega
  have hb0 : ∀ h, (b :: r)[0]'h = b := fun _ => rfl
  have hne : b :: r ≠ [] := List.cons_ne_nil _ _
  have hZ := fun x (hx : x ∈ b :: r) => loI_le (p := p) (hr x hx).2
  generalize lastB b r = lb at *
  generalize FL p mn b = F at *
  generalize b :: r = l at *
  have h2 : ∀ x ∈ l, 1 ≤ x.2 ∧ x.2 ≤ 1048576 := fun x hx => by
    have g1 := hpos x hx
    have g2 := cf_mem hpos hx
    have g3 : cf l x.1 ≤ tot l := W_le hpos fun y _ => by unfold one; split <;> omega
    omega
  have hD := fun x (hx : x ∈ l) => bounds_I p x.1 hp (hr x hx)
  have HD := Lib.hid hD
  have HW := Lib.hid hW
  have HS := Lib.hid hS
  have HN := Lib.hid hN
  have H0 := Lib.hid h0
  have HLa := Lib.hid hlast
  have Hb0 := Lib.hid hb0
  have HZ := Lib.hid hZ
  have H2 := Lib.hid h2
  have B0 : Hid (Below w.heap.size w (w.alloc (.cells #[.int .i64 p, .int .i64 c, .int .i64 s, .int .i64 mn, .int .i64 mx, .slice A l.length q] 29))) := (Below.refl _ w).alloc (Nat.le_refl _) _
  have C0 := Lib.hid (HC.new w 29 p c s mn mx A l.length q)
  have L0 : Hid (LS (w.alloc (.cells #[.int .i64 p, .int .i64 c, .int .i64 s, .int .i64 mn, .int .i64 mx, .slice A l.length q] 29)) w.heap.size A l) := hL.below B0.out
  have Z0 : Hid ((w.alloc (.cells #[.int .i64 p, .int .i64 c, .int .i64 s, .int .i64 mn, .int .i64 mx, .slice A l.length q] 29)).heap.size = w.heap.size + 1) := by show _ = _; simp
  have Hne := Lib.hid hne
  clear hD hW hS hN h0 hlast hb0 hF hr ht hpos ha hne hL hZ h2
  go_enter Try.func68, Try.ntmps68
  go_wp2
  generalize w.alloc (.cells #[.int .i64 p, .int .i64 c, .int .i64 s, .int .i64 mn, .int .i64 mx, .slice A l.length q] 29) = W1 at *
  go_loopw [3, 4] (fun vo vi wr => ∃ k : Nat, ∃ o : Int, k ≤ l.length ∧ vo = .int .i64 o ∧ vi = .int .i64 k ∧ Hid (o = sumL l F (mx - mn) (mn - F lb.1) k) ∧ Hid (Below (w.heap.size + 1) W1 wr)) (fun _ vi _ => l.length - (intOf vi).toNat)
  case atStart => exact ⟨0, mx - mn, by omega, rfl, rfl, (sumL_zero Hne.out).symm, Below.refl _ _⟩
  case round =>
    obtain ⟨k, o, hk, rfl, rfl, HO, HB⟩ := hrel
    obtain ⟨k0, k1, k2, k3, k4, k5⟩ := C0.out.keep (Nat.lt_succ_self _) HB.out
    clear k1 k2
    by_cases hlt : k < l.length
    · obtain ⟨bl, off, rfl, hbl, c1', c2'⟩ := L0.out.at_ hlt
      have c1 := (HB.out.cell (p := ⟨bl, off + k * 2, none⟩) (Nat.lt_succ_of_lt hbl)).trans c1'
      have c2 := (HB.out.cell (p := ⟨bl, off + k * 2 + 1, none⟩) (Nat.lt_succ_of_lt hbl)).trans c2'
      have hsz : w.heap.size + 1 ≤ wr.heap.size := by have := HB.out.size; rw [Z0.out] at this; exact this
      have hbw : bl < wr.heap.size := by omega
      have hgw : w.heap.size < wr.heap.size := by omega
      clear c1' c2'
      have D := Lib.hid (HD.out _ (List.getElem_mem hlt))
      have z1 := HZ.out _ (List.getElem_mem hlt)
      have z2 := H2.out _ (List.getElem_mem hlt)
      have s1 := HS.out k hlt
      have s2 := HW.out k
      have o1 : o = mx - mn + W F (l.take k) := by
        rw [HO.out]
        unfold sumL
        rw [if_neg (by omega)]
        omega
      have e1 : k + 1 < l.length → sumL l F (mx - mn) (mn - F lb.1) (k + 1) = o + F l[k].1 * l[k].2 := fun h => by rw [sumL_mid h, HO.out]
      have e2 : k + 1 = l.length → sumL l F (mx - mn) (mn - F lb.1) (k + 1) = o + F l[k].1 * l[k].2 + mn - F l[k].1 := fun h => by
        have := sumL_last (F := F) (d := mx - mn) (e := mn - F lb.1) h
        rw [this, HO.out, HLa.out k hlt h]
        omega
      have en : 0 < k → F l[k].1 = loI p l[k].1 := HN.out k hlt
      have e0 : k = 0 → F l[k].1 = mn := fun h => by
        subst h
        rw [Hb0.out hlt]
        exact H0.out
      clear HO
      have E1 := Lib.hid e1
      have E2 := Lib.hid e2
      clear e1 e2
      generalize W F (List.take k l) = S at *
      generalize loI p l[k].1 = z at *
      generalize hiI p l[k].1 = z' at *
      generalize F l[k].1 = V at *
      generalize l[k].1 = x1 at *
      generalize l[k].2 = x2 at *
      by_cases hk0 : k = 0
      · have hV := e0 hk0
        subst hV
        subst hk0
        clear en e0
        simp only [Nat.zero_mul, Nat.add_zero] at c1 c2
        by_cases hkl : 0 + 1 = l.length
        · skip
          have E := Lib.hid (E2.out hkl)
          clear E1 E2
          rw [← hkl] at k5
          go_wp2_with fail
          go_region_law (go_simp; go_at_call 41; (with_reducible refine (D.out _).mono ?_); rintro e w1 ⟨rfl, hb1⟩; have HB1 := Lib.hid ((bel_drew HB.out).trans (hb1.mono (show w.heap.size + 1 ≤ wr.heap.size by omega))); have k0' := (hb1.cell (p := ⟨w.heap.size, 0, none⟩) hgw).trans k0; have k3' := (hb1.cell (p := ⟨w.heap.size, 3, none⟩) hgw).trans k3; have k5' := (hb1.cell (p := ⟨w.heap.size, 5, none⟩) hgw).trans k5; have c2' := (hb1.cell (p := ⟨bl, off + 1, none⟩) hbw).trans c2; clear hb1 k0 k3 k5 c1 c2 k4)
          all_goals go_simp
          all_goals go_wp2_with fail
          all_goals
            go_roundw
            case rel => exact ⟨0 + 1, _, by omega, rfl, by go_num, by show _ = _; rw [E.out]; omega, HB1⟩
            case measure => simp [intOf]; omega
        · skip
          have E := Lib.hid (E1.out (by omega))
          clear E1 E2
          have hkl1 : ¬ (0 : Int) = (l.length : Int) - 1 := by omega
          have hlt1 : (0 : Int) < (l.length : Int) := by omega
          go_wp2_with fail
          go_region_law (go_simp; go_at_call 41; (with_reducible refine (D.out _).mono ?_); rintro e w1 ⟨rfl, hb1⟩; have HB1 := Lib.hid ((bel_drew HB.out).trans (hb1.mono (show w.heap.size + 1 ≤ wr.heap.size by omega))); have k0' := (hb1.cell (p := ⟨w.heap.size, 0, none⟩) hgw).trans k0; have k3' := (hb1.cell (p := ⟨w.heap.size, 3, none⟩) hgw).trans k3; have k5' := (hb1.cell (p := ⟨w.heap.size, 5, none⟩) hgw).trans k5; have c2' := (hb1.cell (p := ⟨bl, off + 1, none⟩) hbw).trans c2; clear hb1 k0 k3 k5 c1 c2 k4)
          all_goals go_simp
          all_goals go_wp2_with fail
          all_goals
            go_roundw
            case rel => exact ⟨0 + 1, _, by omega, rfl, by go_num, by show _ = _; rw [E.out]; omega, HB1⟩
            case measure => simp [intOf]; omega
      · have hV := en (by omega)
        subst hV
        clear en e0
        have hk01 : ¬ (k : Int) = 0 := by omega
        by_cases hkl : k + 1 = l.length
        · skip
          have E := Lib.hid (E2.out hkl)
          clear E1 E2
          rw [← hkl] at k5
          go_wp2_with fail
          go_region_law (go_simp; go_at_call 41; (with_reducible refine (D.out _).mono ?_); rintro e w1 ⟨rfl, hb1⟩; have HB1 := Lib.hid ((bel_drew HB.out).trans (hb1.mono (show w.heap.size + 1 ≤ wr.heap.size by omega))); have k0' := (hb1.cell (p := ⟨w.heap.size, 0, none⟩) hgw).trans k0; have k3' := (hb1.cell (p := ⟨w.heap.size, 3, none⟩) hgw).trans k3; have k5' := (hb1.cell (p := ⟨w.heap.size, 5, none⟩) hgw).trans k5; have c2' := (hb1.cell (p := ⟨bl, off + k * 2 + 1, none⟩) hbw).trans c2; clear hb1 k0 k3 k5 c1 c2 k4)
          all_goals go_simp
          all_goals go_wp2_with fail
          all_goals
            go_roundw
            case rel => exact ⟨k + 1, _, by omega, rfl, by go_num, by show _ = _; rw [E.out]; omega, HB1⟩
            case measure => simp [intOf]; omega
        · skip
          have E := Lib.hid (E1.out (by omega))
          clear E1 E2
          have hkl1 : ¬ (k : Int) = (l.length : Int) - 1 := by omega
          go_wp2_with fail
          go_region_law (go_simp; go_at_call 41; (with_reducible refine (D.out _).mono ?_); rintro e w1 ⟨rfl, hb1⟩; have HB1 := Lib.hid ((bel_drew HB.out).trans (hb1.mono (show w.heap.size + 1 ≤ wr.heap.size by omega))); have k0' := (hb1.cell (p := ⟨w.heap.size, 0, none⟩) hgw).trans k0; have k3' := (hb1.cell (p := ⟨w.heap.size, 3, none⟩) hgw).trans k3; have k5' := (hb1.cell (p := ⟨w.heap.size, 5, none⟩) hgw).trans k5; have c2' := (hb1.cell (p := ⟨bl, off + k * 2 + 1, none⟩) hbw).trans c2; clear hb1 k0 k3 k5 c1 c2 k4)
          all_goals go_simp
          all_goals go_wp2_with fail
          all_goals
            go_roundw
            case rel => exact ⟨k + 1, _, by omega, rfl, by go_num, by show _ = _; rw [E.out]; omega, HB1⟩
            case measure => simp [intOf]; omega
    · obtain rfl : k = l.length := by omega
      have HE : Hid (o = leastH ⟨p, c, s, mn, mx, l⟩ b r) := by show _ = _; rw [HO.out, HR.out]
      clear HO
      go_wp2
      go_ret
      exact ⟨by rw [← HE.out]; rfl, B0.out.trans (HB.out.mono (by omega))⟩
end Go.Proofs.Ytffnopdpndpngaa.Lh
