/- Layer 12: the reference's fits. -/
import Derived.Test.YtffnopdpndpngaaLiG
import Derived.Deep.QuietTactic
import Derived.BigQuiet
import Derived.Deep.RegionHeld3
set_option linter.unusedVariables false
set_option linter.unusedSimpArgs false
set_option maxRecDepth 100000
namespace Go.Proofs.Ytffnopdpndpngaa.Lh
open Go.RowKit
/-- What lies in front of the call's own box lies as it lay. -/
structure SX (w W1 V : World) : Prop where
  b : Below (w.heap.size + 1) W1 V
  z : W1.heap.size = w.heap.size + 1
theorem sx_drew {w W1 V : World} (h : SX w W1 V) : SX w W1 V.drew := ⟨bel_drew h.1, h.2⟩
theorem sx_step {w W1 V V' : World} (h : SX w W1 V) (hb : Below V.heap.size V V') : SX w W1 V' := ⟨h.1.trans (hb.mono (by have := h.1.size; have := h.2; omega)), h.2⟩
theorem sx_of {w W1 V : World} {p0 p1 p2 p3 p4 p5 : Prop} (h : p0 ∧ p1 ∧ p2 ∧ p3 ∧ p4 ∧ p5 ∧ SX w W1 V) : SX w W1 V := h.2.2.2.2.2.2
theorem ret_dec {a b : Bool} (h : a = b) : Ending.returned (.bool a) = Ending.returned (.bool b) := by rw [h]
set_option maxHeartbeats 4000000 in
theorem fits_none (p c s mn mx : Int) (l : List B) (A : Option Addr) (q : Nat) (w : World) :
    Calls Try.prog 47 #[hV p c s mn mx A l.length q, .int .i64 0] w fun e w' => e = .returned (.bool (fitsH ⟨p, c, s, mn, mx, l⟩ 0)) ∧ Below w.heap.size w w' := by
  have HE : Hid (fitsH ⟨p, c, s, mn, mx, l⟩ 0 = decide (c = 0 ∧ s = 0 ∧ mn = 0 ∧ mx = 0)) := if_pos rfl
  by_cases h1 : c = 0
  · subst h1
    by_cases h2 : s = 0
    · subst h2
      by_cases h3 : mn = 0
      · subst h3
        by_cases h4 : mx = 0
        · subst h4
          go_enter Try.func47, Try.ntmps47
          go_wp2
          go_ret
          rw [HE.out]
          exact ⟨by simp, (Below.refl _ _).alloc (Nat.le_refl _) _⟩
        · go_enter Try.func47, Try.ntmps47
          go_wp2
          go_ret
          rw [HE.out]
          exact ⟨by simp [h4], (Below.refl _ _).alloc (Nat.le_refl _) _⟩
      · go_enter Try.func47, Try.ntmps47
        go_wp2
        go_ret
        rw [HE.out]
        exact ⟨by simp [h3], (Below.refl _ _).alloc (Nat.le_refl _) _⟩
    · go_enter Try.func47, Try.ntmps47
      go_wp2
      go_ret
      rw [HE.out]
      exact ⟨by simp [h2], (Below.refl _ _).alloc (Nat.le_refl _) _⟩
  · go_enter Try.func47, Try.ntmps47
    go_wp2
    go_ret
    rw [HE.out]
    exact ⟨by simp [h1], (Below.refl _ _).alloc (Nat.le_refl _) _⟩
set_option maxHeartbeats 4000000 in
theorem fits_some (p c s mn mx : Int) (b : B) (r : List B) (n : Int) (hn : n ≠ 0) (hp : 0 ≤ p ∧ p ≤ 8) (ha : Asc (b :: r)) (hpos : Pos (b :: r)) (ht : tot (b :: r) ≤ 1048576) (hr : ∀ x ∈ b :: r, 0 ≤ x.1 ∧ x.1 ≤ topI p) (hlen : (b :: r).length ≤ 500)
    (A : Option Addr) (q : Nat) (w : World) (hL : LS w w.heap.size A (b :: r)) :
    Calls Try.prog 47 #[hV p c s mn mx A (b :: r).length q, .int .i64 n] w fun e w' => e = .returned (.bool (fitsH ⟨p, c, s, mn, mx, b :: r⟩ n)) ∧ Below w.heap.size w w' := by
  by_cases h1 : mn < 0
  · have HE : Hid (fitsH ⟨p, c, s, mn, mx, b :: r⟩ n = false) := by show _ = _; unfold fitsH; rw [if_neg hn, if_pos (.inl h1)]
    generalize b :: r = l at *
    go_enter Try.func47, Try.ntmps47
    go_wp2
    go_ret
    rw [HE.out]
    exact ⟨rfl, (Below.refl _ _).alloc (Nat.le_refl _) _⟩
  by_cases h2 : 1099511627776 < mx
  · have HE : Hid (fitsH ⟨p, c, s, mn, mx, b :: r⟩ n = false) := by show _ = _; unfold fitsH; rw [if_neg hn, if_pos (.inr (.inl h2))]
    generalize b :: r = l at *
    go_enter Try.func47, Try.ntmps47
    go_wp2
    go_ret
    rw [HE.out]
    exact ⟨rfl, (Below.refl _ _).alloc (Nat.le_refl _) _⟩
  by_cases h3 : mx < mn
  · have HE : Hid (fitsH ⟨p, c, s, mn, mx, b :: r⟩ n = false) := by show _ = _; unfold fitsH; rw [if_neg hn, if_pos (.inr (.inr (.inl h3)))]
    generalize b :: r = l at *
    go_enter Try.func47, Try.ntmps47
    go_wp2
    go_ret
    rw [HE.out]
    exact ⟨rfl, (Below.refl _ _).alloc (Nat.le_refl _) _⟩
  by_cases h4 : c ≠ n
  · have HE : Hid (fitsH ⟨p, c, s, mn, mx, b :: r⟩ n = false) := by show _ = _; unfold fitsH; rw [if_neg hn, if_pos (.inr (.inr (.inr h4)))]
    generalize b :: r = l at *
    go_enter Try.func47, Try.ntmps47
    go_wp2
    go_ret
    rw [HE.out]
    exact ⟨rfl, (Below.refl _ _).alloc (Nat.le_refl _) _⟩
  have h4 : c = n := by omega
  subst h4
  have hm1 : 0 ≤ mn ∧ mn ≤ 1099511627776 := by omega
  have hm2 : 0 ≤ mx ∧ mx ≤ 1099511627776 := by omega
  have I1 := Lib.hid (fun w => index_I p mn hp hm1 w)
  have I2 := Lib.hid (fun w => index_I p mx hp hm2 w)
  have LE := Lib.hid (fun w h => least_any p c s mn mx b r hp ha hpos ht hr ⟨hm1.1, by omega⟩ hm2.2 hlen A q w h)
  have MO := Lib.hid (fun w h => most_any p c s mn mx b r hp ha hpos ht hr ⟨hm1.1, by omega⟩ hm2.2 hlen A q w h)
  have HE0 : Hid (fitsH ⟨p, c, s, mn, mx, b :: r⟩ c = if ixI p mn ≠ b.1 ∨ ixI p mx ≠ (lastB b r).1 then false else if c = 1 then decide (mn = mx ∧ s = mn) else decide (leastH ⟨p, c, s, mn, mx, b :: r⟩ b r ≤ s ∧ s ≤ mostH ⟨p, c, s, mn, mx, b :: r⟩ b r)) := by
    show _ = _
    unfold fitsH
    rw [if_neg hn, if_neg (show ¬ (mn < 0 ∨ 1099511627776 < mx ∨ mx < mn ∨ c ≠ c) by omega)]
  have hlast : lastB b r = (b :: r)[r.length]'(by simp) := lastB_get b r
  generalize leastH ⟨p, c, s, mn, mx, b :: r⟩ b r = le1 at *
  generalize mostH ⟨p, c, s, mn, mx, b :: r⟩ b r = mo1 at *
  have L0 := Lib.hid hL
  obtain ⟨L, hLL⟩ : ∃ L, L = r.length := ⟨_, rfl⟩
  have hll : (b :: r).length = L + 1 := by simp [hLL]
  have hL0 : L < (b :: r).length := by omega
  have hlast2 : (lastB b r).1 = ((b :: r)[L]'hL0).1 := by
    subst hLL
    rw [hlast]
  have hL1 : 0 < (b :: r).length := by omega
  have hf0 : b.1 = ((b :: r)[0]'hL1).1 := rfl
  rw [hlast2, hf0] at HE0
  clear hlast hlast2 hf0 hLL ha hpos ht hr
  generalize b :: r = l at *
  have hl0 := hL1
  have hlL := hL0
  obtain ⟨bl, off, rfl, hbl, hcc⟩ := hL (by intro e; rw [e] at hl0; simp at hl0)
  have hc0 := (hcc 0 hl0).1
  have hcL := (hcc L hlL).1
  simp only [Nat.zero_mul, Nat.add_zero] at hc0
  obtain ⟨W1, hW1⟩ : ∃ W1, W1 = w.alloc (.cells #[.int .i64 p, .int .i64 c, .int .i64 s, .int .i64 mn, .int .i64 mx, .slice (some ⟨bl, off, none⟩) l.length q] 29) := ⟨_, rfl⟩
  have B0 : Below w.heap.size w W1 := by rw [hW1]; exact (Below.refl _ w).alloc (Nat.le_refl _) _
  have C0 : Hid (HC W1 w.heap.size p c s mn mx (some ⟨bl, off, none⟩) l.length q) := by show HC _ _ _ _ _ _ _ _ _ _; rw [hW1]; exact HC.new w 29 p c s mn mx (some ⟨bl, off, none⟩) l.length q
  have c0 := (B0.cell (p := ⟨bl, off, none⟩) hbl).trans hc0
  have cL := (B0.cell (p := ⟨bl, off + L * 2, none⟩) hbl).trans hcL
  have Z0 : Hid (W1.heap.size = w.heap.size + 1) := by show _ = _; rw [hW1]; simp
  have LL : Hid (∀ V, Below (w.heap.size + 1) W1 V → LS V V.heap.size (some ⟨bl, off, none⟩) l) := Lib.hid fun V h => ((hL.below B0).below (h.mono (by omega))).more (by have h1 := h.size; rw [Z0.out] at h1; omega)
  obtain ⟨m0, m1, m2, m3, m4, m5⟩ := C0.out
  have hkS : IntKind.i64.wrap ((l.length : Int) - 1) = L := by rw [IntWalk.i64_in _ (by omega)]; omega
  have hwS : wrap64 ((l.length : Int) - 1) = L := by unfold wrap64; omega
  have hlS : (l.length : Int) - 1 = L := by omega
  have hkL : IntKind.i64.wrap (L : Int) = L := IntWalk.i64_in _ (by omega)
  have hLi : (L : Int) < l.length := by omega
  have h0i : (0 : Int) < l.length := by omega
  have SXA : Hid (∀ V, SX w W1 V → V.cell? ⟨w.heap.size, 0, none⟩ = some (.int .i64 p) ∧ V.cell? ⟨w.heap.size, 1, none⟩ = some (.int .i64 c) ∧ V.cell? ⟨w.heap.size, 2, none⟩ = some (.int .i64 s) ∧ V.cell? ⟨w.heap.size, 3, none⟩ = some (.int .i64 mn) ∧ V.cell? ⟨w.heap.size, 4, none⟩ = some (.int .i64 mx) ∧ V.cell? ⟨w.heap.size, 5, none⟩ = some (.slice (some ⟨bl, off, none⟩) l.length q) ∧ SX w W1 V) := Lib.hid fun V h => by
    obtain ⟨n0, n1, n2, n3, n4, n5⟩ := C0.out.keep (Nat.lt_succ_self _) h.1
    exact ⟨n0, n1, n2, n3, n4, n5, h⟩
  have LLS : Hid (∀ V, (V.cell? ⟨w.heap.size, 0, none⟩ = some (.int .i64 p) ∧ V.cell? ⟨w.heap.size, 1, none⟩ = some (.int .i64 c) ∧ V.cell? ⟨w.heap.size, 2, none⟩ = some (.int .i64 s) ∧ V.cell? ⟨w.heap.size, 3, none⟩ = some (.int .i64 mn) ∧ V.cell? ⟨w.heap.size, 4, none⟩ = some (.int .i64 mx) ∧ V.cell? ⟨w.heap.size, 5, none⟩ = some (.slice (some ⟨bl, off, none⟩) l.length q) ∧ SX w W1 V) → LS V V.heap.size (some ⟨bl, off, none⟩) l) := Lib.hid fun V h => LL.out V (sx_of h).1
  have HB0 := Lib.hid B0
  have HW1 := Lib.hid hW1.symm
  clear hW1
  clear hL hc0 hcL hcc B0 hll
  have hii : Hid (mn = mx → ixI p mn = ixI p mx) := Lib.hid fun h => by rw [h]
  generalize ixI p mn = i1 at *
  generalize ixI p mx = i2 at *
  generalize l[0].1 = f1 at *
  generalize l[L].1 = f2 at *
  clear hlL hl0 hL0 hL1
  by_cases e1 : i1 = f1
  · subst e1
    have hg1 : (i1 != i1) = false := by simp
    by_cases e2 : i2 = f2
    · subst e2
      have hg2 : (i2 != i2) = false := by simp
      by_cases e3 : c = 1
      · have HE : Hid (fitsH ⟨p, c, s, mn, mx, l⟩ c = decide (mn = mx ∧ s = mn)) := by show _ = _; rw [HE0.out, if_neg (by simp), if_pos e3]
        subst e3
        clear HE0
        by_cases e4 : mn = mx
        · subst e4
          obtain rfl := hii.out rfl
          by_cases e5 : s = mn
          · subst e5
            go_enter Try.func47, Try.ntmps47
            go_wp2
            rw [HW1.out]
            go_quiet (first | (go_at_call 40; with_reducible exact Calls.quiet_of_same (I1.out _)) | (go_at_call 40; with_reducible exact Calls.quiet_of_same (I2.out _)))
            go_wp2_with fail
            go_ret
            rw [HE.out]
            exact ⟨ret_dec (by simp), bel_drewN HB0.out _⟩
          · have he5 : (s == mn) = false := by simpa using e5
            go_enter Try.func47, Try.ntmps47
            go_wp2
            rw [HW1.out]
            go_quiet (first | (go_at_call 40; with_reducible exact Calls.quiet_of_same (I1.out _)) | (go_at_call 40; with_reducible exact Calls.quiet_of_same (I2.out _)))
            go_wp2_with fail
            go_ret
            rw [HE.out]
            exact ⟨ret_dec (by simp [e5]), bel_drewN HB0.out _⟩
        · have he4 : (mn == mx) = false := by simpa using e4
          go_enter Try.func47, Try.ntmps47
          go_wp2
          rw [HW1.out]
          go_quiet (first | (go_at_call 40; with_reducible exact Calls.quiet_of_same (I1.out _)) | (go_at_call 40; with_reducible exact Calls.quiet_of_same (I2.out _)))
          go_wp2_with fail
          go_ret
          rw [HE.out]
          exact ⟨ret_dec (by simp [e4]), bel_drewN HB0.out _⟩
      · have HE : Hid (fitsH ⟨p, c, s, mn, mx, l⟩ c = decide (le1 ≤ s ∧ s ≤ mo1)) := by show _ = _; rw [HE0.out, if_neg (by simp), if_neg e3]
        clear HE0
        by_cases e4 : le1 ≤ s
        · skip
          go_enter Try.func47, Try.ntmps47
          go_wp2
          rw [HW1.out]
          go_quiet (first | (go_at_call 40; with_reducible exact Calls.quiet_of_same (I1.out _)) | (go_at_call 40; with_reducible exact Calls.quiet_of_same (I2.out _)))
          go_wp2_with fail
          have HB : Hid (SX w W1 (W1.drewN nq)) := Lib.hid ⟨bel_drewN (Below.refl _ _) _, Z0.out⟩
          clear m0 m1 m2 m3 m4 m5 c0 cL
          generalize W1.drewN nq = W2 at *
          obtain ⟨m0, m1, m2, m3, m4, m5, -⟩ := SXA.out _ HB.out
          go_region_held3 (fun V => V.cell? ⟨w.heap.size, 0, none⟩ = some (.int .i64 p) ∧ V.cell? ⟨w.heap.size, 1, none⟩ = some (.int .i64 c) ∧ V.cell? ⟨w.heap.size, 2, none⟩ = some (.int .i64 s) ∧ V.cell? ⟨w.heap.size, 3, none⟩ = some (.int .i64 mn) ∧ V.cell? ⟨w.heap.size, 4, none⟩ = some (.int .i64 mx) ∧ V.cell? ⟨w.heap.size, 5, none⟩ = some (.slice (some ⟨bl, off, none⟩) l.length q) ∧ SX w W1 V)
            (first | exact SXA.out _ (sx_drew HB.out) | exact SXA.out _ (sx_drew (sx_of (by assumption))) | exact SXA.out _ (sx_step (sx_of (by assumption)) (by assumption)))
            (first | (go_at_call 68; refine (LE.out _ (LLS.out _ (by assumption))).mono ?_; rintro e w' ⟨rfl, hb⟩; have HT := Lib.hid (sx_step (sx_of (by assumption)) hb)) | (go_at_call 69; refine (MO.out _ (LLS.out _ (by assumption))).mono ?_; rintro e w' ⟨rfl, hb⟩; have HT := Lib.hid (sx_step (sx_of (by assumption)) hb)))
          go_wp2
          go_ret
          rw [HE.out]
          exact ⟨ret_dec (by simp [e4]), HB0.out.trans (HT.out.1.mono (by omega))⟩
        · have he4 : decide (le1 ≤ s) = false := by simpa using e4
          have HDE := Lib.hid (decide_eq_false (fun h : le1 ≤ s ∧ s ≤ mo1 => e4 h.1))
          go_enter Try.func47, Try.ntmps47
          go_wp2
          rw [HW1.out]
          go_quiet (first | (go_at_call 40; with_reducible exact Calls.quiet_of_same (I1.out _)) | (go_at_call 40; with_reducible exact Calls.quiet_of_same (I2.out _)))
          go_wp2_with fail
          have HB : Hid (SX w W1 (W1.drewN nq)) := Lib.hid ⟨bel_drewN (Below.refl _ _) _, Z0.out⟩
          clear m0 m1 m2 m3 m4 m5 c0 cL
          generalize W1.drewN nq = W2 at *
          obtain ⟨m0, m1, m2, m3, m4, m5, -⟩ := SXA.out _ HB.out
          have HBb := Lib.hid HB.out.1
          first
            | (go_region_law (go_simp; go_at_call 68; (with_reducible refine (LE.out _ (LL.out _ (bel_drew HBb.out))).mono ?_); rintro e w1 ⟨rfl, hb⟩; have HT := Lib.hid (sx_step (sx_drew HB.out) hb); clear hb m0 m1 m2 m3 m4 m5; obtain ⟨m0, m1, m2, m3, m4, m5⟩ := C0.out.keep (Nat.lt_succ_self _) HT.out.1))
            | fail
          all_goals go_simp
          all_goals go_wp2_with fail
          all_goals
            go_ret
            rw [HE.out]
            exact ⟨ret_dec HDE.out.symm, HB0.out.trans (HT.out.1.mono (by omega))⟩
    · have HE : Hid (fitsH ⟨p, c, s, mn, mx, l⟩ c = false) := by show _ = _; rw [HE0.out, if_pos (.inr e2)]
      have hg2 : (i2 != f2) = true := by simpa using e2
      clear HE0
      go_enter Try.func47, Try.ntmps47
      go_wp2
      rw [HW1.out]
      go_quiet (first | (go_at_call 40; with_reducible exact Calls.quiet_of_same (I1.out _)) | (go_at_call 40; with_reducible exact Calls.quiet_of_same (I2.out _)))
      go_wp2_with fail
      go_ret
      rw [HE.out]
      exact ⟨rfl, bel_drewN HB0.out _⟩
  · have HE : Hid (fitsH ⟨p, c, s, mn, mx, l⟩ c = false) := by show _ = _; rw [HE0.out, if_pos (.inl e1)]
    have hg1 : (i1 != f1) = true := by simpa using e1
    clear HE0
    go_enter Try.func47, Try.ntmps47
    go_wp2
    rw [HW1.out]
    go_quiet (first | (go_at_call 40; with_reducible exact Calls.quiet_of_same (I1.out _)) | (go_at_call 40; with_reducible exact Calls.quiet_of_same (I2.out _)))
    go_wp2_with fail
    go_ret
    rw [HE.out]
    exact ⟨rfl, bel_drewN HB0.out _⟩
end Go.Proofs.Ytffnopdpndpngaa.Lh
