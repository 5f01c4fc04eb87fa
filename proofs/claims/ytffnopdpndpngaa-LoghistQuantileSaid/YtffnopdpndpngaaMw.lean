/- Layer 12: the program's Quantile. -/
import Derived.Test.YtffnopdpndpngaaMv
import Derived.Test.YtffnopdpndpngaaMr
import Derived.Test.YtffnopdpndpngaaMs
import Derived.Test.YtffnopdpndpngaaMPq
import Derived.Deep.RegionLaw
import Derived.Deep.RegionWith
set_option linter.unusedVariables false
set_option linter.unusedSimpArgs false
namespace Go.Proofs.Ytffnopdpndpngaa.Lh
open Go.RowKit
theorem its_box (w : World) (p c s mn mx : Int) (A : Option Addr) (m k : Nat) (n d : Int) :
    HC ((w.alloc (.cells #[.int .i64 p, .int .i64 c, .int .i64 s, .int .i64 mn, .int .i64 mx, .slice A m k] 29)).alloc (.cells #[.int .i64 n, .int .i64 d] 42)) w.heap.size p c s mn mx A m k ∧
    (∀ V, Below (w.heap.size + 2) ((w.alloc (.cells #[.int .i64 p, .int .i64 c, .int .i64 s, .int .i64 mn, .int .i64 mx, .slice A m k] 29)).alloc (.cells #[.int .i64 n, .int .i64 d] 42)) V → V.cell? ⟨w.heap.size + 1, 0, none⟩ = some (.int .i64 n) ∧ V.cell? ⟨w.heap.size + 1, 1, none⟩ = some (.int .i64 d)) := by
  refine ⟨(HC.new w 29 p c s mn mx A m k).keep (Nat.lt_succ_self _) ((Below.refl _ _).alloc (by simp) _), fun V h => ⟨?_, ?_⟩⟩
  · refine (h.cell (p := ⟨w.heap.size + 1, 0, none⟩) (by simp)).trans ?_
    simp
  · refine (h.cell (p := ⟨w.heap.size + 1, 1, none⟩) (by simp)).trans ?_
    simp
set_option maxHeartbeats 4000000 in
theorem pQuantile_any (p c s mn mx n d : Int) (l : List B) (hlen : l.length ≤ 140737488355328) (hmn : inI mn) (hmx : inI mx) (hn : inI n) (hd : inI d) (A : Option Addr) (k : Nat) (w : World) (hL : LS w w.heap.size A l) :
    Calls Try.prog 29 #[hV p c s mn mx A l.length k, .agg #[.int .i64 n, .int .i64 d]] w fun e w' => e = .returned (quantO ⟨p, c, s, mn, mx, l⟩ n d) ∧ Below w.heap.size w w' := by
  obtain ⟨W1, hW1⟩ : ∃ W1, W1 = (w.alloc (.cells #[.int .i64 p, .int .i64 c, .int .i64 s, .int .i64 mn, .int .i64 mx, .slice A l.length k] 29)).alloc (.cells #[.int .i64 n, .int .i64 d] 42) := ⟨_, rfl⟩
  have B0 : Hid (Below w.heap.size w W1) := by show Below _ _ _; rw [hW1]; exact ((Below.refl _ w).alloc (Nat.le_refl _) _).alloc (by simp) _
  have C0 : Hid (HC W1 w.heap.size p c s mn mx A l.length k) := by show HC _ _ _ _ _ _ _ _ _ _; rw [hW1]; exact (its_box w p c s mn mx A l.length k n d).1
  have P0 : Hid (∀ V, Below (w.heap.size + 2) W1 V → V.cell? ⟨w.heap.size + 1, 0, none⟩ = some (.int .i64 n) ∧ V.cell? ⟨w.heap.size + 1, 1, none⟩ = some (.int .i64 d)) := by
    refine Lib.hid fun V h => ?_
    rw [hW1] at h
    exact (its_box w p c s mn mx A l.length k n d).2 V h
  have Z0 : Hid (W1.heap.size = w.heap.size + 2) := by show _ = _; rw [hW1]; simp
  have HW1 := Lib.hid hW1.symm
  have HB : Hid (Below (w.heap.size + 2) W1 W1) := Below.refl _ _
  clear hW1
  have BB : Hid (∀ V', Below (w.heap.size + 2) W1 V' → Below w.heap.size w V') := Lib.hid fun V' h => B0.out.trans (h.mono (by omega))
  have LL : Hid (∀ V', Below (w.heap.size + 2) W1 V' → LS V' V'.heap.size A l) := Lib.hid fun V' h => ((hL.below B0.out).below (h.mono (by omega))).more (by have h1 := h.size; have h2 := Z0.out; omega)
  have CK : Hid (∀ V', Below (w.heap.size + 2) W1 V' → Calls Try.prog 25 #[hV p c s mn mx A l.length k] V' fun e w' => e = .returned (.int .i64 (chk ⟨p, c, s, mn, mx, l⟩ : Nat)) ∧ Below V'.heap.size V' w') := Lib.hid fun V' h => pCheck_any p c s mn mx l hlen hmn hmx A k V' (LL.out V' h)
  by_cases h1 : chk ⟨p, c, s, mn, mx, l⟩ ≠ 0
  · rw [quantO, if_pos (.inl h1)]
    have h1b : ((chk ⟨p, c, s, mn, mx, l⟩ : Nat) : Int) ≠ 0 := by omega
    have h1c : (((chk ⟨p, c, s, mn, mx, l⟩ : Nat) : Int) != 0) = true := by simpa using h1
    have h1d : (chk ⟨p, c, s, mn, mx, l⟩ != 0) = true := by simpa using h1
    generalize chk ⟨p, c, s, mn, mx, l⟩ = zz at *
    go_enter Try.func29, Try.ntmps29
    go_wp2_with (go_at_call 25; rw [HW1.out]; (with_reducible refine (CK.out _ HB.out).mono ?_); rintro e w2 ⟨rfl, hb⟩; have HB2 := Lib.hid (HB.out.trans (hb.mono (by have h2 := Z0.out; omega))); clear hb)
    refine bodyPost_ret (v := .tuple #[.int .i64 0, .int .i64 0, .int .i64 1]) (by simp [results, Try.f29, go_sem]) rfl ?_
    exact ⟨rfl, BB.out _ HB2.out⟩
  have h1 : chk ⟨p, c, s, mn, mx, l⟩ = 0 := by omega
  rw [h1] at CK
  by_cases h2 : ¬ Rat.chk n d
  · rw [quantO, if_pos (.inr h2)]
    have RN := Lib.hid (Pro.check_no n d hn hd h2)
    clear h1 h2
    go_enter Try.func29, Try.ntmps29
    go_wp2_with (first | (go_at_call 25; rw [HW1.out]; (with_reducible refine (CK.out _ HB.out).mono ?_); rintro e w2 ⟨rfl, hb⟩; have HB2 := Lib.hid (HB.out.trans (hb.mono (by have h2 := Z0.out; omega))); obtain ⟨x0, x1⟩ := P0.out _ HB2.out; clear hb) | (go_at_call 48; (with_reducible refine (RN.out _).mono ?_); rintro e w3 ⟨rfl, hb⟩; have HB3 := Lib.hid (HB2.out.trans (hb.mono (by have h1 := HB2.out.size; have h2 := Z0.out; omega))); clear hb))
    refine bodyPost_ret (v := .tuple #[.int .i64 0, .int .i64 0, .int .i64 1]) (by simp [results, Try.f29, go_sem]) rfl ?_
    exact ⟨rfl, BB.out _ HB3.out⟩
  have h2 : Rat.chk n d := Decidable.not_not.1 h2
  have h3 : ¬ (chk ⟨p, c, s, mn, mx, l⟩ ≠ 0 ∨ ¬ Rat.chk n d) := fun e => e.elim (fun e => e h1) (fun e => e h2)
  rw [quantO, if_neg h3]
  have RY := Lib.hid (Pro.check_yes n d h2)
  by_cases h4 : n < 0
  · rw [if_pos (.inl h4)]
    clear h1 h2 h3
    go_enter Try.func29, Try.ntmps29
    go_wp2_with (first | (go_at_call 25; rw [HW1.out]; (with_reducible refine (CK.out _ HB.out).mono ?_); rintro e w2 ⟨rfl, hb⟩; have HB2 := Lib.hid (HB.out.trans (hb.mono (by have h2 := Z0.out; omega))); obtain ⟨x0, x1⟩ := P0.out _ HB2.out; clear hb) | (go_at_call 48; (with_reducible refine (RY.out _).mono ?_); rintro e w3 ⟨rfl, hb⟩; have HB3 := Lib.hid (HB2.out.trans (hb.mono (by have h1 := HB2.out.size; have h2 := Z0.out; omega))); obtain ⟨y0, y1⟩ := P0.out _ HB3.out; clear hb))
    refine bodyPost_ret (v := .tuple #[.int .i64 0, .int .i64 0, .int .i64 2]) (by simp [results, Try.f29, go_sem]) rfl ?_
    exact ⟨rfl, BB.out _ HB3.out⟩
  by_cases h5 : d < n
  · rw [if_pos (.inr h5)]
    clear h1 h2 h3
    go_enter Try.func29, Try.ntmps29
    go_wp2_with (first | (go_at_call 25; rw [HW1.out]; (with_reducible refine (CK.out _ HB.out).mono ?_); rintro e w2 ⟨rfl, hb⟩; have HB2 := Lib.hid (HB.out.trans (hb.mono (by have h2 := Z0.out; omega))); obtain ⟨x0, x1⟩ := P0.out _ HB2.out; clear hb) | (go_at_call 48; (with_reducible refine (RY.out _).mono ?_); rintro e w3 ⟨rfl, hb⟩; have HB3 := Lib.hid (HB2.out.trans (hb.mono (by have h1 := HB2.out.size; have h2 := Z0.out; omega))); obtain ⟨y0, y1⟩ := P0.out _ HB3.out; clear hb))
    refine bodyPost_ret (v := .tuple #[.int .i64 0, .int .i64 0, .int .i64 2]) (by simp [results, Try.f29, go_sem]) rfl ?_
    exact ⟨rfl, BB.out _ HB3.out⟩
  rw [if_neg (by omega)]
  by_cases h6 : c = 0
  · rw [if_pos h6]
    subst h6
    clear h1 h2 h3
    go_enter Try.func29, Try.ntmps29
    go_wp2_with (first | (go_at_call 25; rw [HW1.out]; (with_reducible refine (CK.out _ HB.out).mono ?_); rintro e w2 ⟨rfl, hb⟩; have HB2 := Lib.hid (HB.out.trans (hb.mono (by have h2 := Z0.out; omega))); obtain ⟨x0, x1⟩ := P0.out _ HB2.out; clear hb) | (go_at_call 48; (with_reducible refine (RY.out _).mono ?_); rintro e w3 ⟨rfl, hb⟩; have HB3 := Lib.hid (HB2.out.trans (hb.mono (by have h1 := HB2.out.size; have h2 := Z0.out; omega))); obtain ⟨y0, y1⟩ := P0.out _ HB3.out; obtain ⟨m0, m1, m2, m3, m4, m5⟩ := C0.out.keep (N := w.heap.size + 2) (by omega) HB3.out; clear hb))
    refine bodyPost_ret (v := .tuple #[.int .i64 0, .int .i64 0, .int .i64 28]) (by simp [results, Try.f29, go_sem]) rfl ?_
    exact ⟨rfl, BB.out _ HB3.out⟩
  rw [if_neg h6]
  have ok := chk_iff.1 h1
  have hc1 : 1 ≤ c ∧ c ≤ 1048576 := by
    have e1 : c = tot l := ok.count
    have e2 : tot l ≤ 1048576 := ok.tot
    have e3 : 0 ≤ tot l := tot_nonneg ok.pos
    omega
  have hcc : Rat.chk c 1 := ⟨by omega, by omega, by simp⟩
  have RM := Lib.hid (Pro.mul_any n d c 1 hn hd (by unfold Pro.inI; omega) (by unfold Pro.inI; omega))
  rw [Rat.opOut_yes ⟨h2, hcc⟩] at RM
  have hd0 : 0 < d := by have := h2.1.1; omega
  by_cases h7 : Rat.FitsQ (prodQ n d c)
  · rw [if_pos h7]
    have hq := rkQ_in hd0 (show 0 ≤ n by omega) (show n ≤ d by omega) hc1.1
    have e0 := Rat.outQ_yes h7
    have hv := Rat.valid_chk (Rat.valid_of_fits h7)
    have CE := Lib.hid (ceiling_any (prodQ n d c).num (prodQ n d c).den hv)
    have hne : l ≠ [] := by
      intro e
      have e1 : c = tot l := ok.count
      rw [e] at e1
      have : tot [] = 0 := rfl
      omega
    have HQ : Hid (qItem (rkQ n d c) (its p mn mx 0 l) = (lowH ⟨p, c, s, mn, mx, l⟩ (qI (rkQ n d c) l), highH ⟨p, c, s, mn, mx, l⟩ (qI (rkQ n d c) l))) := qItem_qI (h := ⟨p, c, s, mn, mx, l⟩) hne (by show _ ≤ tot l; have e1 : c = tot l := ok.count; omega)
    have WR : Hid (∀ V', Below (w.heap.size + 2) W1 V' → Calls Try.prog 50 #[hV p c s mn mx A l.length k, .int .i64 (rkQ n d c)] V' fun e w' => e = .returned (.tuple #[.int .i64 (lowH ⟨p, c, s, mn, mx, l⟩ (qI (rkQ n d c) l)), .int .i64 (highH ⟨p, c, s, mn, mx, l⟩ (qI (rkQ n d c) l))]) ∧ Below V'.heap.size V' w') := Lib.hid fun V' h => by
      have C := withRank_any p c s mn mx (rkQ n d c) l ok.len ⟨ok.p0, ok.p8⟩ (fun b hb => ⟨(ok.rng b hb).1, (ok.rng b hb).2.1⟩) ok.pos ok.tot A k V' (LL.out V' h)
      rw [HQ.out] at C
      exact C
    have RM : Hid (∀ w, Calls Try.prog 49 #[.agg #[.int .i64 n, .int .i64 d], .agg #[.int .i64 c, .int .i64 1]] w fun e w' => e = .returned (.tuple #[.agg #[.int .i64 (prodQ n d c).num, .int .i64 ((prodQ n d c).den : Int)], .int .i64 0]) ∧ Below w.heap.size w w') := Lib.hid fun w => by
      have C := RM.out w
      have e1 : Rat.outQ (Rat.toQ n d.toNat * Rat.toQ c (1 : Int).toNat) = _ := e0
      rw [e1] at C
      exact C
    have hrk : rkQ n d c = max (-(-(prodQ n d c).num / ((prodQ n d c).den : Int))) 1 := rfl
    generalize lowH ⟨p, c, s, mn, mx, l⟩ (qI (rkQ n d c) l) = q1 at *
    generalize highH ⟨p, c, s, mn, mx, l⟩ (qI (rkQ n d c) l) = q2 at *
    generalize rkQ n d c = rk at *
    generalize -(-(prodQ n d c).num / ((prodQ n d c).den : Int)) = ce at *
    generalize (prodQ n d c).num = qn at *
    generalize (prodQ n d c).den = qd at *
    clear HQ hne hv e0 h7 hcc ok h1 h2 h3 hq
    have HRK := Lib.hid hrk
    clear hrk
    go_enter Try.func29, Try.ntmps29
    go_wp2_with (first | (go_at_call 25; rw [HW1.out]; (with_reducible refine (CK.out _ HB.out).mono ?_); rintro e w2 ⟨rfl, hb⟩; have HB2 := Lib.hid (HB.out.trans (hb.mono (by have h2 := Z0.out; omega))); obtain ⟨x0, x1⟩ := P0.out _ HB2.out; clear hb) | (go_at_call 48; (with_reducible refine (RY.out _).mono ?_); rintro e w3 ⟨rfl, hb⟩; have HB3 := Lib.hid (HB2.out.trans (hb.mono (by have h1 := HB2.out.size; have h2 := Z0.out; omega))); obtain ⟨y0, y1⟩ := P0.out _ HB3.out; obtain ⟨m0, m1, m2, m3, m4, m5⟩ := C0.out.keep (N := w.heap.size + 2) (by omega) HB3.out; clear hb x0 x1))
    go_at_call 49
    with_reducible refine (RM.out _).mono ?_
    rintro e w4 ⟨rfl, hb⟩
    have HB4 := Lib.hid (HB3.out.trans (hb.mono (by have h1 := HB3.out.size; have h2 := Z0.out; omega)))
    clear hb y0 y1 m0 m1 m2 m3 m4 m5
    obtain ⟨m0, m1, m2, m3, m4, m5⟩ := C0.out.keep (N := w.heap.size + 2) (by omega) HB4.out
    have hlt4 : w.heap.size < w4.heap.size := by have h1 := HB4.out.size; have h2 := Z0.out; omega
    go_wp2_with fail
    have hb4 := HB4.out.size
    have hz1 := Z0.out
    have BX : Below (w.heap.size + 2) W1 (w4.alloc (.cells #[.int .i64 qn, .int .i64 (qd : Int)] 42)) := HB4.out.alloc (by omega) _
    have CX : (w4.alloc (.cells #[.int .i64 qn, .int .i64 (qd : Int)] 42)).cell? ⟨w4.heap.size, 0, none⟩ = some (.int .i64 qn) ∧ (w4.alloc (.cells #[.int .i64 qn, .int .i64 (qd : Int)] 42)).cell? ⟨w4.heap.size, 1, none⟩ = some (.int .i64 qd) := ⟨by simp, by simp⟩
    generalize w4.alloc (.cells #[.int .i64 qn, .int .i64 (qd : Int)] 42) = W5 at *
    obtain ⟨v0, v1⟩ := CX
    clear m0 m1 m2 m3 m4 m5
    obtain ⟨m0, m1, m2, m3, m4, m5⟩ := C0.out.keep (N := w.heap.size + 2) (by omega) BX
    have HB5 := Lib.hid BX
    clear BX
    rw [HRK.out] at WR
    go_region_law (go_simp; first | (go_at_call 51; (with_reducible refine (CE.out _).mono ?_); rintro e w6 ⟨rfl, hb⟩; have HB6 := Lib.hid ((bel_drew HB5.out).trans (hb.mono (by have h1 := HB5.out.size; simp; omega))); clear hb m0 m1 m2 m3 m4 m5 v0 v1; obtain ⟨m0, m1, m2, m3, m4, m5⟩ := C0.out.keep (N := w.heap.size + 2) (by omega) HB6.out) | (go_at_call 50; (with_reducible refine (WR.out _ HB6.out).mono ?_); rintro e w7 ⟨rfl, hb⟩; have HB7 := Lib.hid (HB6.out.trans (hb.mono (by have h1 := HB6.out.size; omega))); clear hb))
    all_goals go_simp
    all_goals go_wp2_with fail
    all_goals
      refine bodyPost_ret (v := .tuple #[.int .i64 q1, .int .i64 q2, .int .i64 0]) (by simp [results, Try.f29, go_sem]) rfl ?_
      exact ⟨rfl, BB.out _ HB7.out⟩
  · rw [if_neg h7]
    have e0 := Rat.outQ_no h7
    have RM : Hid (∀ w, Calls Try.prog 49 #[.agg #[.int .i64 n, .int .i64 d], .agg #[.int .i64 c, .int .i64 1]] w fun e w' => e = .returned (.tuple #[.agg #[.int .i64 0, .int .i64 0], .int .i64 14]) ∧ Below w.heap.size w w') := Lib.hid fun w => by
      have C := RM.out w
      have e1 : Rat.outQ (Rat.toQ n d.toNat * Rat.toQ c (1 : Int).toNat) = _ := e0
      rw [e1] at C
      exact C
    clear e0 h7 hcc ok h1 h2 h3
    go_enter Try.func29, Try.ntmps29
    go_wp2_with (first | (go_at_call 25; rw [HW1.out]; (with_reducible refine (CK.out _ HB.out).mono ?_); rintro e w2 ⟨rfl, hb⟩; have HB2 := Lib.hid (HB.out.trans (hb.mono (by have h2 := Z0.out; omega))); obtain ⟨x0, x1⟩ := P0.out _ HB2.out; clear hb) | (go_at_call 48; (with_reducible refine (RY.out _).mono ?_); rintro e w3 ⟨rfl, hb⟩; have HB3 := Lib.hid (HB2.out.trans (hb.mono (by have h1 := HB2.out.size; have h2 := Z0.out; omega))); obtain ⟨y0, y1⟩ := P0.out _ HB3.out; obtain ⟨m0, m1, m2, m3, m4, m5⟩ := C0.out.keep (N := w.heap.size + 2) (by omega) HB3.out; clear hb x0 x1) | (go_at_call 49; (with_reducible refine (RM.out _).mono ?_); rintro e w4 ⟨rfl, hb⟩; have HB4 := Lib.hid (HB3.out.trans (hb.mono (by have h1 := HB3.out.size; have h2 := Z0.out; omega))); clear hb y0 y1 m0 m1 m2 m3 m4 m5))
    refine bodyPost_ret (v := .tuple #[.int .i64 0, .int .i64 0, .int .i64 14]) (by simp [results, Try.f29, go_sem]) rfl ?_
    exact ⟨rfl, (BB.out _ HB4.out).alloc (BB.out _ HB4.out).size _⟩
end Go.Proofs.Ytffnopdpndpngaa.Lh
