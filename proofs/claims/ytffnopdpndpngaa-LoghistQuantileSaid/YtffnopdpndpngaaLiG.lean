/- Layer 12: the reference's most. -/
import Derived.Test.YtffnopdpndpngaaLiF
set_option linter.unusedVariables false
set_option linter.unusedSimpArgs false
namespace Go.Proofs.Ytffnopdpndpngaa.Lh
open Go.RowKit
/-- The sum so far. -/
def sumM (l : List B) (F : Int → Int) (d e : Int) (k : Nat) : Int := d + W F (l.take k) + if 0 < k then e else 0
theorem sumM_zero {l : List B} {F : Int → Int} {d e : Int} : sumM l F d e 0 = d := by
  unfold sumM
  rw [if_neg (by omega)]
  simp [W]
theorem sumM_first {l : List B} {F : Int → Int} {d e : Int} (h : 0 < l.length) : sumM l F d e (0 + 1) = sumM l F d e 0 + F l[0].1 * l[0].2 + e := by
  unfold sumM
  rw [if_pos (by omega), if_neg (by omega), W_take h, Int.mul_comm]
  omega
theorem sumM_next {l : List B} {F : Int → Int} {d e : Int} {k : Nat} (h0 : 0 < k) (h : k < l.length) : sumM l F d e (k + 1) = sumM l F d e k + F l[k].1 * l[k].2 := by
  unfold sumM
  rw [if_pos (by omega), if_pos h0, W_take h, Int.mul_comm]
  omega
set_option maxHeartbeats 4000000 in
theorem most_any (p c s mn mx : Int) (b : B) (r : List B) (hp : 0 ≤ p ∧ p ≤ 8) (ha : Asc (b :: r)) (hpos : Pos (b :: r)) (ht : tot (b :: r) ≤ 1048576) (hr : ∀ x ∈ b :: r, 0 ≤ x.1 ∧ x.1 ≤ topI p) (hmn : 0 ≤ mn ∧ mn ≤ mx) (hmx : mx ≤ 1099511627776) (hlen : (b :: r).length ≤ 500)
    (A : Option Addr) (q : Nat) (w : World) (hL : LS w w.heap.size A (b :: r)) :
    Calls Try.prog 69 #[hV p c s mn mx A (b :: r).length q] w fun e w' => e = .returned (.int .i64 (mostH ⟨p, c, s, mn, mx, b :: r⟩ b r)) ∧ Below w.heap.size w w' := by
  have HR : Hid (mostH ⟨p, c, s, mn, mx, b :: r⟩ b r = sumM (b :: r) (FH p mx (lastB b r)) (mn - mx) (mx - FH p mx (lastB b r) b.1) (b :: r).length) := by
    show _ = _
    rw [mostH_W ha]
    unfold sumM
    rw [if_pos (by simp), List.take_length]
    show mn - mx + W (FH p mx (lastB b r)) (b :: r) + mx - FH p mx (lastB b r) b.1 = _
    omega
  have hF : ∀ x ∈ b :: r, 0 ≤ FH p mx (lastB b r) x.1 ∧ FH p mx (lastB b r) x.1 ≤ 1099511627776 := fun x hx => by
    have := hiI_le p x.1
    unfold FH
    split <;> omega
  have hW := fun k => W_small hpos ht hF k
  have hS := fun k (h : k < (b :: r).length) => W_step hpos ht hF h
  have hlast : ∀ k (h : k < (b :: r).length), k + 1 = (b :: r).length → lastB b r = (b :: r)[k] := fun k h e => by
    rw [lastB_get]
    congr 1
    simp only [List.length_cons] at e
    omega
  have h0 : ∀ k (h : k < (b :: r).length), k + 1 = (b :: r).length → FH p mx (lastB b r) (b :: r)[k].1 = mx := fun k h e => by
    rw [hlast k h e]
    exact if_pos rfl
  have hN : ∀ k (h : k < (b :: r).length), k + 1 < (b :: r).length → FH p mx (lastB b r) (b :: r)[k].1 = hiI p (b :: r)[k].1 := fun k h hk => by
    have h3 : r.length < (b :: r).length := by simp
    have e : lastB b r = (b :: r)[r.length]'h3 := lastB_get b r
    refine if_neg ?_
    rw [e]
    exact asc_ne ha h h3 (by simp only [List.length_cons] at hk; omega)
  have hb0 : ∀ h, (b :: r)[0]'h = b := fun _ => rfl
  have hne : 0 < (b :: r).length := by simp
  have hZ := fun x (hx : x ∈ b :: r) => hiI_le p x.1
  have hFb := hF b List.mem_cons_self
  generalize FH p mx (lastB b r) = F at *
  generalize b :: r = l at *
  have h2 : ∀ x ∈ l, 1 ≤ x.2 ∧ x.2 ≤ 1048576 := fun x hx => by
    have g1 := hpos x hx
    have g2 := cf_mem hpos hx
    have g3 : cf l x.1 ≤ tot l := W_le hpos fun y _ => by unfold one; split <;> omega
    omega
  have hD := fun x (hx : x ∈ l) => bounds_I p x.1 hp (hr x hx)
  have HD := Lib.hid hD
  have HW := Lib.hid hW
  have HS := Lib.hid hS
  have HN := Lib.hid hN
  have H0 := Lib.hid h0
  have Hb0 := Lib.hid hb0
  have HZ := Lib.hid hZ
  have H2 := Lib.hid h2
  have HFX := Lib.hid hF
  have B0 : Hid (Below w.heap.size w (w.alloc (.cells #[.int .i64 p, .int .i64 c, .int .i64 s, .int .i64 mn, .int .i64 mx, .slice A l.length q] 29))) := (Below.refl _ w).alloc (Nat.le_refl _) _
  have C0 := Lib.hid (HC.new w 29 p c s mn mx A l.length q)
  have L0 : Hid (LS (w.alloc (.cells #[.int .i64 p, .int .i64 c, .int .i64 s, .int .i64 mn, .int .i64 mx, .slice A l.length q] 29)) w.heap.size A l) := hL.below B0.out
  have Z0 : Hid ((w.alloc (.cells #[.int .i64 p, .int .i64 c, .int .i64 s, .int .i64 mn, .int .i64 mx, .slice A l.length q] 29)).heap.size = w.heap.size + 1) := by show _ = _; simp
  have Hne := Lib.hid hne
  clear hD hW hS hN h0 hlast hb0 hF hr ht hpos ha hne hL hZ h2
  obtain ⟨fb, hfb⟩ : ∃ fb, fb = F b.1 := ⟨_, rfl⟩
  rw [← hfb] at hFb HR
  have HFB := Lib.hid hfb
  clear hfb
  go_enter Try.func69, Try.ntmps69
  go_wp2
  generalize w.alloc (.cells #[.int .i64 p, .int .i64 c, .int .i64 s, .int .i64 mn, .int .i64 mx, .slice A l.length q] 29) = W1 at *
  go_loopw [3, 4] (fun vo vi wr => ∃ k : Nat, ∃ o : Int, k ≤ l.length ∧ vo = .int .i64 o ∧ vi = .int .i64 k ∧ Hid (o = sumM l F (mn - mx) (mx - fb) k) ∧ Hid (Below (w.heap.size + 1) W1 wr)) (fun _ vi _ => l.length - (intOf vi).toNat)
  case atStart => exact ⟨0, mn - mx, by omega, rfl, rfl, sumM_zero.symm, Below.refl _ _⟩
  case round =>
    obtain ⟨k, o, hk, rfl, rfl, HO, HB⟩ := hrel
    obtain ⟨k0, k1, k2, k3, k4, k5⟩ := C0.out.keep (Nat.lt_succ_self _) HB.out
    clear k1 k2
    by_cases hlt : k < l.length
    · obtain ⟨bl, off, rfl, hbl, c1', c2'⟩ := L0.out.at_ hlt
      have c1 := (HB.out.cell (p := ⟨bl, off + k * 2, none⟩) (Nat.lt_succ_of_lt hbl)).trans c1'
      have c2 := (HB.out.cell (p := ⟨bl, off + k * 2 + 1, none⟩) (Nat.lt_succ_of_lt hbl)).trans c2'
      have hsz : w.heap.size + 1 ≤ wr.heap.size := by have := HB.out.size; rw [Z0.out] at this; exact this
      have hbw : bl < wr.heap.size := by omega
      have hgw : w.heap.size < wr.heap.size := by omega
      clear c1' c2'
      have D := Lib.hid (HD.out _ (List.getElem_mem hlt))
      have z1 := HZ.out _ (List.getElem_mem hlt)
      have z2 := H2.out _ (List.getElem_mem hlt)
      have s1 := HS.out k hlt
      have s2 := HW.out k
      have s3 := HFX.out _ (List.getElem_mem hlt)
      have o1 : o = mn - mx + W F (l.take k) + if 0 < k then mx - fb else 0 := by
        rw [HO.out]
        rfl
      have e1 : ∀ h : k = 0, sumM l F (mn - mx) (mx - fb) (k + 1) = o + F l[k].1 * l[k].2 + mx - F l[k].1 := fun h => by
        subst h
        rw [sumM_first hlt, ← HO.out, HFB.out, ← Hb0.out hlt]
        omega
      have e2 : 0 < k → sumM l F (mn - mx) (mx - fb) (k + 1) = o + F l[k].1 * l[k].2 := fun h => by rw [sumM_next h hlt, HO.out]
      have en : k + 1 < l.length → F l[k].1 = hiI p l[k].1 := HN.out k hlt
      have e0 : k + 1 = l.length → F l[k].1 = mx := H0.out k hlt
      clear HO
      have E1 := Lib.hid e1
      have E2 := Lib.hid e2
      clear e1 e2
      generalize W F (List.take k l) = S at *
      generalize loI p l[k].1 = z at *
      generalize hiI p l[k].1 = z' at *
      generalize F l[k].1 = V at *
      generalize l[k].1 = x1 at *
      generalize l[k].2 = x2 at *
      by_cases hk0 : k = 0
      · have E := Lib.hid (E1.out hk0)
        clear E1 E2
        subst hk0
        rw [if_neg (by omega)] at o1
        simp only [Nat.zero_mul, Nat.add_zero] at c1 c2
        by_cases hkl : 0 + 1 = l.length
        · have hV := e0 hkl
          subst hV
          clear en e0
          rw [← hkl] at k5
          go_wp2_with fail
          go_region_law (go_simp; go_at_call 41; (with_reducible refine (D.out _).mono ?_); rintro e w1 ⟨rfl, hb1⟩; have HB1 := Lib.hid ((bel_drew HB.out).trans (hb1.mono (show w.heap.size + 1 ≤ wr.heap.size by omega))); have k0' := (hb1.cell (p := ⟨w.heap.size, 0, none⟩) hgw).trans k0; have k4' := (hb1.cell (p := ⟨w.heap.size, 4, none⟩) hgw).trans k4; have k5' := (hb1.cell (p := ⟨w.heap.size, 5, none⟩) hgw).trans k5; have c2' := (hb1.cell (p := ⟨bl, off + 1, none⟩) hbw).trans c2; clear hb1 k0 k3 k4 k5 c1 c2)
          all_goals go_simp
          all_goals go_wp2_with fail
          all_goals
            go_roundw
            case rel => exact ⟨0 + 1, _, by omega, rfl, by go_num, by show _ = _; rw [E.out]; omega, HB1⟩
            case measure => simp [intOf]; omega
        · have hV := en (by omega)
          subst hV
          clear en e0
          have hkl1 : ¬ (0 : Int) = (l.length : Int) - 1 := by omega
          have hlt1 : (0 : Int) < (l.length : Int) := by omega
          go_wp2_with fail
          go_region_law (go_simp; go_at_call 41; (with_reducible refine (D.out _).mono ?_); rintro e w1 ⟨rfl, hb1⟩; have HB1 := Lib.hid ((bel_drew HB.out).trans (hb1.mono (show w.heap.size + 1 ≤ wr.heap.size by omega))); have k0' := (hb1.cell (p := ⟨w.heap.size, 0, none⟩) hgw).trans k0; have k4' := (hb1.cell (p := ⟨w.heap.size, 4, none⟩) hgw).trans k4; have k5' := (hb1.cell (p := ⟨w.heap.size, 5, none⟩) hgw).trans k5; have c2' := (hb1.cell (p := ⟨bl, off + 1, none⟩) hbw).trans c2; clear hb1 k0 k3 k4 k5 c1 c2)
          all_goals go_simp
          all_goals go_wp2_with fail
          all_goals
            go_roundw
            case rel => exact ⟨0 + 1, _, by omega, rfl, by go_num, by show _ = _; rw [E.out]; omega, HB1⟩
            case measure => simp [intOf]; omega
      · have E := Lib.hid (E2.out (by omega))
        clear E1 E2
        rw [if_pos (by omega)] at o1
        have hk01 : ¬ (k : Int) = 0 := by omega
        by_cases hkl : k + 1 = l.length
        · have hV := e0 hkl
          subst hV
          clear en e0
          rw [← hkl] at k5
          go_wp2_with fail
          go_region_law (go_simp; go_at_call 41; (with_reducible refine (D.out _).mono ?_); rintro e w1 ⟨rfl, hb1⟩; have HB1 := Lib.hid ((bel_drew HB.out).trans (hb1.mono (show w.heap.size + 1 ≤ wr.heap.size by omega))); have k0' := (hb1.cell (p := ⟨w.heap.size, 0, none⟩) hgw).trans k0; have k4' := (hb1.cell (p := ⟨w.heap.size, 4, none⟩) hgw).trans k4; have k5' := (hb1.cell (p := ⟨w.heap.size, 5, none⟩) hgw).trans k5; have c2' := (hb1.cell (p := ⟨bl, off + k * 2 + 1, none⟩) hbw).trans c2; clear hb1 k0 k3 k4 k5 c1 c2)
          all_goals go_simp
          all_goals go_wp2_with fail
          all_goals
            go_roundw
            case rel => exact ⟨k + 1, _, by omega, rfl, by go_num, by show _ = _; rw [E.out]; omega, HB1⟩
            case measure => simp [intOf]; omega
        · have hV := en (by omega)
          subst hV
          clear en e0
          have hkl1 : ¬ (k : Int) = (l.length : Int) - 1 := by omega
          go_wp2_with fail
          go_region_law (go_simp; go_at_call 41; (with_reducible refine (D.out _).mono ?_); rintro e w1 ⟨rfl, hb1⟩; have HB1 := Lib.hid ((bel_drew HB.out).trans (hb1.mono (show w.heap.size + 1 ≤ wr.heap.size by omega))); have k0' := (hb1.cell (p := ⟨w.heap.size, 0, none⟩) hgw).trans k0; have k4' := (hb1.cell (p := ⟨w.heap.size, 4, none⟩) hgw).trans k4; have k5' := (hb1.cell (p := ⟨w.heap.size, 5, none⟩) hgw).trans k5; have c2' := (hb1.cell (p := ⟨bl, off + k * 2 + 1, none⟩) hbw).trans c2; clear hb1 k0 k3 k4 k5 c1 c2)
          all_goals go_simp
          all_goals go_wp2_with fail
          all_goals
            go_roundw
            case rel => exact ⟨k + 1, _, by omega, rfl, by go_num, by show _ = _; rw [E.out]; omega, HB1⟩
            case measure => simp [intOf]; omega
    · obtain rfl : k = l.length := by omega
      have HE : Hid (o = mostH ⟨p, c, s, mn, mx, l⟩ b r) := by show _ = _; rw [HO.out, HR.out]
      clear HO
      go_wp2
      go_ret
      exact ⟨by rw [← HE.out]; rfl, B0.out.trans (HB.out.mono (by omega))⟩
end Go.Proofs.Ytffnopdpndpngaa.Lh
