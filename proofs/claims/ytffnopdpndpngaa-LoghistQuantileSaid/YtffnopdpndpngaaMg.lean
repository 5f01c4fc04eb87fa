/- Layer 12: the program's Check. -/
import Derived.Test.YtffnopdpndpngaaMf
set_option linter.unusedVariables false
set_option linter.unusedSimpArgs false
namespace Go.Proofs.Ytffnopdpndpngaa.Lh
open Go.RowKit
theorem fits_count {h : H} (e : h.c ≠ tot h.bs) (hp : Pos h.bs) : fitsH h (tot h.bs) = false := by
  unfold fitsH
  by_cases h1 : tot h.bs = 0
  · rw [if_pos h1]
    exact decide_eq_false (by omega)
  · rw [if_neg h1, if_pos (by omega)]
set_option maxHeartbeats 4000000 in
theorem pCheck_any (p c s mn mx : Int) (l : List B) (hlen : l.length ≤ 140737488355328) (hmn : inI mn) (hmx : inI mx) (A : Option Addr) (q : Nat) (w : World) (hL : LS w w.heap.size A l) :
    Calls Try.prog 25 #[hV p c s mn mx A l.length q] w fun e w' => e = .returned (.int .i64 (chk ⟨p, c, s, mn, mx, l⟩ : Nat)) ∧ Below w.heap.size w w' := by
  have P := Lib.hid (isPre_any p)
  obtain ⟨W1, hW1⟩ : ∃ W1, W1 = w.alloc (.cells #[.int .i64 p, .int .i64 c, .int .i64 s, .int .i64 mn, .int .i64 mx, .slice A l.length q] 29) := ⟨_, rfl⟩
  have B0 : Hid (Below w.heap.size w W1) := by show Below _ _ _; rw [hW1]; exact (Below.refl _ w).alloc (Nat.le_refl _) _
  have C0 : Hid (HC W1 w.heap.size p c s mn mx A l.length q) := by show HC _ _ _ _ _ _ _ _ _ _; rw [hW1]; exact HC.new w 29 p c s mn mx A l.length q
  have Z0 : Hid (W1.heap.size = w.heap.size + 1) := by show _ = _; rw [hW1]; simp
  have HW1 := Lib.hid hW1.symm
  have HB : Hid (Below (w.heap.size + 1) W1 W1) := Below.refl _ _
  clear hW1
  have BB : Hid (∀ V', Below (w.heap.size + 1) W1 V' → Below w.heap.size w V') := Lib.hid fun V' h => B0.out.trans (h.mono (Nat.le_succ _))
  have LL : Hid (∀ V', Below (w.heap.size + 1) W1 V' → LS V' V'.heap.size A l) := Lib.hid fun V' h => ((hL.below B0.out).below (h.mono (Nat.le_succ _))).more (by have := h.size; rw [Z0.out] at this; omega)
  clear B0 hL
  by_cases h1 : p < 0 ∨ 8 < p
  · have HE : Hid (chk ⟨p, c, s, mn, mx, l⟩ = 2) := by show _ = _; unfold chk; rw [if_pos h1]
    rw [decide_eq_false (show ¬ (0 ≤ p ∧ p ≤ 8) by omega)] at P
    go_enter Try.func25, Try.ntmps25
    go_wp2_with (go_at_call 38; (with_reducible refine (P.out _).mono ?_); rintro e w1 ⟨rfl, rfl⟩)
    go_ret
    rw [HE.out, HW1.out]
    exact ⟨rfl, BB.out _ HB.out⟩
  rw [decide_eq_true (show 0 ≤ p ∧ p ≤ 8 by omega)] at P
  by_cases h2 : 500 < l.length
  · have HE : Hid (chk ⟨p, c, s, mn, mx, l⟩ = 4) := by show _ = _; unfold chk; rw [if_neg h1, if_pos h2]
    have h2' : (500 : Int) < l.length := by omega
    go_enter Try.func25, Try.ntmps25
    go_wp2_with (go_at_call 38; (with_reducible refine (P.out _).mono ?_); rintro e w1 ⟨rfl, rfl⟩)
    go_ret
    rw [HE.out, HW1.out]
    exact ⟨rfl, BB.out _ HB.out⟩
  have h2' : ¬ (500 : Int) < l.length := by omega
  have CO : Hid (∀ V', Below (w.heap.size + 1) W1 V' → Calls Try.prog 45 #[hV p c s mn mx A l.length q] V' fun e w' => e = .returned (cntO p l) ∧ Below V'.heap.size V' w') := Lib.hid fun V' h => count_any p c s mn mx l (by omega) (by omega) A q V' (LL.out V' h)
  unfold cntO at CO
  by_cases h3 : chkB p none l ≠ 0
  · have HE : Hid (chk ⟨p, c, s, mn, mx, l⟩ = chkB p none l) := by show _ = _; unfold chk; rw [if_neg h1, if_neg h2, if_pos h3]
    rw [if_neg h3] at CO
    have h3' : ((chkB p none l : Nat) : Int) ≠ 0 := by omega
    have h3b : (((chkB p none l : Nat) : Int) != 0) = true := by simpa using h3
    have h3c : (chkB p none l != 0) = true := by simpa using h3
    generalize chkB p none l = z at *
    go_enter Try.func25, Try.ntmps25
    go_wp2_with (first | (go_at_call 38; (with_reducible refine (P.out _).mono ?_); rintro e w1 ⟨rfl, rfl⟩) | (go_at_call 45; rw [HW1.out]; (with_reducible refine (CO.out _ HB.out).mono ?_); rintro e w2 ⟨rfl, hb⟩; have HB := Lib.hid (HB.out.trans (hb.mono (by have h1 := HB.out.size; have h2 := Z0.out; omega))); clear hb))
    go_ret
    rw [HE.out]
    exact ⟨rfl, BB.out _ HB.out⟩
  have h3 : chkB p none l = 0 := by omega
  rw [if_pos h3] at CO
  have hk := (chkB_iff.1 h3).1
  by_cases h4 : 1048576 < tot l
  · have HE : Hid (chk ⟨p, c, s, mn, mx, l⟩ = 4) := by show _ = _; unfold chk; rw [if_neg h1, if_neg h2, if_neg (by omega), if_pos h4]
    clear hk h3
    generalize tot l = T at *
    go_enter Try.func25, Try.ntmps25
    go_wp2_with (first | (go_at_call 38; (with_reducible refine (P.out _).mono ?_); rintro e w1 ⟨rfl, rfl⟩) | (go_at_call 45; rw [HW1.out]; (with_reducible refine (CO.out _ HB.out).mono ?_); rintro e w2 ⟨rfl, hb⟩; have HB := Lib.hid (HB.out.trans (hb.mono (by have h1 := HB.out.size; have h2 := Z0.out; omega))); obtain ⟨m0, m1, m2, m3, m4, m5⟩ := C0.out.keep (Nat.lt_succ_self _) HB.out; clear hb))
    go_ret
    rw [HE.out]
    exact ⟨rfl, BB.out _ HB.out⟩
  have HE : Hid (chk ⟨p, c, s, mn, mx, l⟩ = if fitsH ⟨p, c, s, mn, mx, l⟩ (tot l) = true then 0 else 10) := by show _ = _; unfold chk; rw [if_neg h1, if_neg h2, if_neg (by omega), if_neg h4]
  by_cases h5 : c = tot l
  · have HV : Hid (∀ V', Below (w.heap.size + 1) W1 V' → Calls Try.prog 46 #[hV p c s mn mx A l.length q] V' fun e w' => e = .returned (.bool (fitsH ⟨p, c, s, mn, mx, l⟩ (tot l))) ∧ Below V'.heap.size V' w') := Lib.hid fun V' h => by
      rw [h5]
      exact hasValues_any p s mn mx l (by omega) (by omega) hk.1 hk.2.1 (by omega) hk.2.2 hmn hmx A q V' (LL.out V' h)
    rw [← h5] at CO h4
    generalize fitsH ⟨p, c, s, mn, mx, l⟩ (tot l) = z at *
    clear hk h3 h5
    cases z with
    | false =>
      go_enter Try.func25, Try.ntmps25
      go_wp2_with (first | (go_at_call 38; (with_reducible refine (P.out _).mono ?_); rintro e w1 ⟨rfl, rfl⟩) | (go_at_call 45; rw [HW1.out]; (with_reducible refine (CO.out _ HB.out).mono ?_); rintro e w2 ⟨rfl, hb⟩; have HB := Lib.hid (HB.out.trans (hb.mono (by have h1 := HB.out.size; have h2 := Z0.out; omega))); obtain ⟨m0, m1, m2, m3, m4, m5⟩ := C0.out.keep (Nat.lt_succ_self _) HB.out; clear hb) | (go_at_call 46; (with_reducible refine (HV.out _ HB.out).mono ?_); rintro e w3 ⟨rfl, hb⟩; have HB := Lib.hid (HB.out.trans (hb.mono (by have h1 := HB.out.size; have h2 := Z0.out; omega))); clear hb))
      go_ret
      rw [HE.out]
      exact ⟨rfl, BB.out _ HB.out⟩
    | true =>
      go_enter Try.func25, Try.ntmps25
      go_wp2_with (first | (go_at_call 38; (with_reducible refine (P.out _).mono ?_); rintro e w1 ⟨rfl, rfl⟩) | (go_at_call 45; rw [HW1.out]; (with_reducible refine (CO.out _ HB.out).mono ?_); rintro e w2 ⟨rfl, hb⟩; have HB := Lib.hid (HB.out.trans (hb.mono (by have h1 := HB.out.size; have h2 := Z0.out; omega))); obtain ⟨m0, m1, m2, m3, m4, m5⟩ := C0.out.keep (Nat.lt_succ_self _) HB.out; clear hb) | (go_at_call 46; (with_reducible refine (HV.out _ HB.out).mono ?_); rintro e w3 ⟨rfl, hb⟩; have HB := Lib.hid (HB.out.trans (hb.mono (by have h1 := HB.out.size; have h2 := Z0.out; omega))); clear hb))
      go_ret
      rw [HE.out]
      exact ⟨rfl, BB.out _ HB.out⟩
  · have e := fits_count (h := ⟨p, c, s, mn, mx, l⟩) h5 hk.2.1
    dsimp only at e
    rw [e] at HE
    have h5' : ¬ tot l = c := fun x => h5 x.symm
    have h5b : (tot l != c) = true := by simpa using h5'
    clear e hk h3 h5
    generalize tot l = T at *
    go_enter Try.func25, Try.ntmps25
    go_wp2_with (first | (go_at_call 38; (with_reducible refine (P.out _).mono ?_); rintro e w1 ⟨rfl, rfl⟩) | (go_at_call 45; rw [HW1.out]; (with_reducible refine (CO.out _ HB.out).mono ?_); rintro e w2 ⟨rfl, hb⟩; have HB := Lib.hid (HB.out.trans (hb.mono (by have h1 := HB.out.size; have h2 := Z0.out; omega))); obtain ⟨m0, m1, m2, m3, m4, m5⟩ := C0.out.keep (Nat.lt_succ_self _) HB.out; clear hb))
    go_ret
    rw [HE.out]
    exact ⟨rfl, BB.out _ HB.out⟩
end Go.Proofs.Ytffnopdpndpngaa.Lh
