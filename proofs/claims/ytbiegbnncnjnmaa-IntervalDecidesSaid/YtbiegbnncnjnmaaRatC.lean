/- The contracts of the reference of layer 3: less, plus. -/
import Derived.Test.YtbiegbnncnjnmaaRatB
set_option linter.unusedVariables false
set_option linter.unusedSimpArgs false
namespace Go.Proofs.Ytbiegbnncnjnmaa.Rat
open Go.RowKit

set_option maxHeartbeats 1000000 in
theorem less_raw (s1 s2 : Int) (h1 l1 h2 l2 : Nat) (w : World) :
    Calls Try.prog 88 #[.agg #[.int .i64 s1, .int .i64 h1, .int .i64 l1], .agg #[.int .i64 s2, .int .i64 h2, .int .i64 l2]] w fun e w' => e = .returned (.bool (decide (h1 < h2 ∨ h1 = h2 ∧ l1 < l2))) ∧ Below w.heap.size w w' := by
  rcases Nat.lt_trichotomy h1 h2 with h | h | h
  · rw [decide_eq_true (show h1 < h2 ∨ h1 = h2 ∧ l1 < l2 from .inl h)]
    have g1 : (h1 : Int) < h2 := by omega
    go_enter Try.func88, Try.ntmps88
    go_wp2
    go_ret
    exact ⟨rfl, ((Below.refl _ _).alloc (Nat.le_refl _) _).alloc (by simp) _⟩
  · subst h
    by_cases hl : l1 < l2
    · rw [decide_eq_true (show h1 < h1 ∨ h1 = h1 ∧ l1 < l2 from .inr ⟨rfl, hl⟩)]
      have g2 : (l1 : Int) < l2 := by omega
      go_enter Try.func88, Try.ntmps88
      go_wp2
      go_ret
      exact ⟨rfl, ((Below.refl _ _).alloc (Nat.le_refl _) _).alloc (by simp) _⟩
    · rw [decide_eq_false (show ¬ (h1 < h1 ∨ h1 = h1 ∧ l1 < l2) by omega)]
      have g2 : ¬ (l1 : Int) < l2 := by omega
      go_enter Try.func88, Try.ntmps88
      go_wp2
      go_ret
      exact ⟨rfl, ((Below.refl _ _).alloc (Nat.le_refl _) _).alloc (by simp) _⟩
  · rw [decide_eq_false (show ¬ (h1 < h2 ∨ h1 = h2 ∧ l1 < l2) by omega)]
    have g1 : ¬ (h1 : Int) < h2 := by omega
    have g2 : ((h1 : Int) == h2) = false := beq_eq_false_iff_ne.2 (by omega)
    go_enter Try.func88, Try.ntmps88
    go_wp2
    go_ret
    exact ⟨rfl, ((Below.refl _ _).alloc (Nat.le_refl _) _).alloc (by simp) _⟩

theorem heap3_0 (w : World) (A B C : Obj) : (((w.alloc A).alloc B).alloc C).heap[w.heap.size]? = some A := by
  rw [heap_alloc_old _ _ (by rw [World.size_alloc, World.size_alloc]; omega)]
  exact heap_alloc2_old w _ _
theorem heap3_1 (w : World) (A B C : Obj) : (((w.alloc A).alloc B).alloc C).heap[w.heap.size + 1]? = some B := by
  rw [heap_alloc_old _ _ (by rw [World.size_alloc, World.size_alloc]; omega)]
  exact heap_alloc2_new w _ _
theorem heap3_2 (w : World) (A B C : Obj) : (((w.alloc A).alloc B).alloc C).heap[w.heap.size + 1 + 1]? = some C := by
  have h := heap_alloc_new ((w.alloc A).alloc B) C
  rw [World.size_alloc, World.size_alloc] at h
  exact h
theorem set3 {w : World} {g : Nat} {a b c : Value} {t : TypeId} (x y z : Value) (h : w.heap[g]? = some (.cells #[a, b, c] t (0, 0))) :
    (((w.setCell ⟨g, 0, none⟩ x).setCell ⟨g, 1, none⟩ y).setCell ⟨g, 2, none⟩ z).heap[g]? = some (.cells #[x, y, z] t (0, 0)) :=
  heap_setCell_same _ _ _ _ _ _ (heap_setCell_same _ _ _ _ _ _ (heap_setCell_same _ _ _ _ _ _ h))
theorem agg3 {a b c a' b' c' : Int} (h1 : a = a') (h2 : b = b') (h3 : c = c') : Ending.returned (.agg #[.int .i64 a, .int .i64 b, .int .i64 c]) = .returned (.agg #[.int .i64 a', .int .i64 b', .int .i64 c']) := by rw [h1, h2, h3]
theorem six_world {w w0 : World} {g : Nat} {t : TypeId} {C : Array Value} {x0 x1 x2 x3 x4 x5 a0 a1 a2 b0 b1 b2 : Value}
    (hA : w.heap[g]? = some (.cells #[a0, a1, a2] t (0, 0))) (hB : w.heap[g + 1]? = some (.cells #[b0, b1, b2] t (0, 0))) (hC : w.heap[g + 1 + 1]? = some (.cells C t (0, 0))) (hb : Below g w0 w) :
    ((((((w.setCell ⟨g, 0, none⟩ x0).setCell ⟨g, 1, none⟩ x1).setCell ⟨g, 2, none⟩ x2).setCell ⟨g + 1, 0, none⟩ x3).setCell ⟨g + 1, 1, none⟩ x4).setCell ⟨g + 1, 2, none⟩ x5).heap[g]? = some (.cells #[x0, x1, x2] t (0, 0)) ∧
    ((((((w.setCell ⟨g, 0, none⟩ x0).setCell ⟨g, 1, none⟩ x1).setCell ⟨g, 2, none⟩ x2).setCell ⟨g + 1, 0, none⟩ x3).setCell ⟨g + 1, 1, none⟩ x4).setCell ⟨g + 1, 2, none⟩ x5).heap[g + 1]? = some (.cells #[x3, x4, x5] t (0, 0)) ∧
    ((((((w.setCell ⟨g, 0, none⟩ x0).setCell ⟨g, 1, none⟩ x1).setCell ⟨g, 2, none⟩ x2).setCell ⟨g + 1, 0, none⟩ x3).setCell ⟨g + 1, 1, none⟩ x4).setCell ⟨g + 1, 2, none⟩ x5).heap[g + 1 + 1]? = some (.cells C t (0, 0)) ∧
    Below g w0 ((((((w.setCell ⟨g, 0, none⟩ x0).setCell ⟨g, 1, none⟩ x1).setCell ⟨g, 2, none⟩ x2).setCell ⟨g + 1, 0, none⟩ x3).setCell ⟨g + 1, 1, none⟩ x4).setCell ⟨g + 1, 2, none⟩ x5) := by
  refine ⟨?_, ?_, ?_, (((((hb.setCell (Nat.le_refl _) _).setCell (Nat.le_refl _) _).setCell (Nat.le_refl _) _).setCell (by simp) _).setCell (by simp) _).setCell (by simp) _⟩
  · rw [heap_setCell_other _ _ _ _ (by simp), heap_setCell_other _ _ _ _ (by simp), heap_setCell_other _ _ _ _ (by simp)]
    exact set3 _ _ _ hA
  · refine set3 (a := b0) (b := b1) (c := b2) _ _ _ ?_
    rw [heap_setCell_other _ _ _ _ (by simp), heap_setCell_other _ _ _ _ (by simp), heap_setCell_other _ _ _ _ (by simp)]
    exact hB
  · rw [heap_setCell_other _ _ _ _ (by simp), heap_setCell_other _ _ _ _ (by simp), heap_setCell_other _ _ _ _ (by simp), heap_setCell_other _ _ _ _ (by simp; omega), heap_setCell_other _ _ _ _ (by simp; omega), heap_setCell_other _ _ _ _ (by simp; omega)]
    exact hC
theorem one3 (a b c : Int) : #[Value.int .i64 a, .int .i64 b, .int .i64 c].all (·.oneCell') = true := by simp [Value.oneCell']
theorem below3 (w : World) (A B C : Obj) : Below w.heap.size w (((w.alloc A).alloc B).alloc C) :=
  (((Below.refl w.heap.size w).alloc (Nat.le_refl _) A).alloc (by simp) B).alloc (by simp; omega) C
theorem below_setRow {B g : Nat} {w w' : World} (hb : Below B w w') (hg : B ≤ g) (cs : Array Value) : Below B w (w'.setRow g cs) :=
  ⟨hb.os, hb.tape, hb.output, by rw [size_setRow]; exact hb.size, fun k hk => (setRow_other _ _ _ _ (by omega)).trans (hb.block k hk)⟩

set_option maxHeartbeats 1000000 in
/-- plus, where the first is nothing. -/
theorem plus_zero_l (h1 l1 : Int) (s2 h2 l2 : Int) (w : World) :
    Calls Try.prog 67 #[.agg #[.int .i64 0, .int .i64 h1, .int .i64 l1], .agg #[.int .i64 s2, .int .i64 h2, .int .i64 l2]] w fun e w' => e = .returned (.agg #[.int .i64 s2, .int .i64 h2, .int .i64 l2]) ∧ Below w.heap.size w w' := by
  go_enter Try.func67, Try.ntmps67
  go_wp2
  refine bodyPost_ret (results_cell_row rfl _ _ (w.heap.size + 1 + 1) 71 _ (0, 0) _ rfl (heap3_2 w _ _ _) Try.underlying71 rfl info49) rfl ?_
  exact ⟨rfl, below3 w _ _ _⟩
set_option maxHeartbeats 1000000 in
/-- plus, where the second is nothing. -/
theorem plus_zero_r (s1 h1 l1 : Int) (h2 l2 : Int) (hs : (s1 == 0) = false) (w : World) :
    Calls Try.prog 67 #[.agg #[.int .i64 s1, .int .i64 h1, .int .i64 l1], .agg #[.int .i64 0, .int .i64 h2, .int .i64 l2]] w fun e w' => e = .returned (.agg #[.int .i64 s1, .int .i64 h1, .int .i64 l1]) ∧ Below w.heap.size w w' := by
  go_enter Try.func67, Try.ntmps67
  go_wp2
  refine bodyPost_ret (results_cell_row rfl _ _ (w.heap.size + 1 + 1) 71 _ (0, 0) _ rfl (heap3_2 w _ _ _) Try.underlying71 rfl info49) rfl ?_
  exact ⟨rfl, below3 w _ _ _⟩
set_option maxHeartbeats 1000000 in
/-- plus, where the signs are the same. -/
theorem plus_same (s : Int) (h1 l1 h2 l2 : Nat) (hs : (s == 0) = false) (b1 : h1 ≤ 2305843009213693952) (b2 : h2 ≤ 2305843009213693952) (c1 : l1 < 1152921504606846976) (c2 : l2 < 1152921504606846976) (w : World) :
    Calls Try.prog 67 #[.agg #[.int .i64 s, .int .i64 h1, .int .i64 l1], .agg #[.int .i64 s, .int .i64 h2, .int .i64 l2]] w fun e w' => e = .returned (.agg #[.int .i64 s, .int .i64 ((h1 : Int) + h2 + ((l1 : Int) + l2) / 1152921504606846976), .int .i64 (((l1 : Int) + l2) % 1152921504606846976)]) ∧ Below w.heap.size w w' := by
  go_enter Try.func67, Try.ntmps67
  go_wp2
  refine bodyPost_ret (results_cell_row rfl _ _ (w.heap.size + 1 + 1) 71 _ (0, 0) _ rfl (heap3_2 w _ _ _) Try.underlying71 rfl info49) rfl ?_
  exact ⟨rfl, below3 w _ _ _⟩

set_option maxHeartbeats 2000000 in
theorem plus_borrow (s1 s2 : Int) (h1 l1 h2 l2 : Nat) (hs1 : (s1 == 0) = false) (hs2 : (s2 == 0) = false) (hs : (s1 == s2) = false) (b1 : h1 ≤ 2305843009213693952) (b2 : h2 ≤ 2305843009213693952) (c1 : l1 < 1152921504606846976) (c2 : l2 < 1152921504606846976) (h : h2 < h1) (hl : l1 < l2) (w : World) :
    Calls Try.prog 67 #[.agg #[.int .i64 s1, .int .i64 h1, .int .i64 l1], .agg #[.int .i64 s2, .int .i64 h2, .int .i64 l2]] w fun e w' => e = .returned (.agg #[.int .i64 s1, .int .i64 ((h1 : Int) - h2 - 1), .int .i64 ((l1 : Int) - l2 + 1152921504606846976)]) ∧ Below w.heap.size w w' := by
  have HL := Lib.hid fun w => less_raw s1 s2 h1 l1 h2 l2 w
  rw [decide_eq_false (show ¬ (h1 < h2 ∨ h1 = h2 ∧ l1 < l2) by omega)] at HL
  have g1 : (l1 : Int) - l2 < 0 := by omega
  have g3 : ¬ ((l1 : Int) - l2 + 1152921504606846976 = 0) := by omega
  go_enter Try.func67, Try.ntmps67
  go_wp2_with fail
  refine (HL.out _).mono ?_
  rintro e w1 ⟨rfl, hb⟩
  have hA : w1.heap[w.heap.size]? = some (.cells #[.int .i64 s1, .int .i64 h1, .int .i64 l1] 71 (0, 0)) := (hb.block _ (by simp; omega)).trans (heap3_0 w _ _ _)
  have hB : w1.heap[w.heap.size + 1]? = some (.cells #[.int .i64 s2, .int .i64 h2, .int .i64 l2] 71 (0, 0)) := (hb.block _ (by simp)).trans (heap3_1 w _ _ _)
  have hC : w1.heap[w.heap.size + 1 + 1]? = some (.cells #[.int .i64 0, .int .i64 0, .int .i64 0] 71 (0, 0)) := (hb.block _ (by simp)).trans (heap3_2 w _ _ _)
  have HB : Hid (Below w.heap.size w w1) := (below3 w _ _ _).trans (hb.mono (by simp; omega))
  clear hb HL
  have fA : ∀ j, w1.frozen? ⟨w.heap.size, j, none⟩ = false := fun j => frozen_of_row _ _ _ _ _ hA
  have fB : ∀ j, w1.frozen? ⟨w.heap.size + 1, j, none⟩ = false := fun j => frozen_of_row _ _ _ _ _ hB
  have fC : ∀ j, w1.frozen? ⟨w.heap.size + 1 + 1, j, none⟩ = false := fun j => frozen_of_row _ _ _ _ _ hC
  have a0 : w1.cell? ⟨w.heap.size, 0, none⟩ = some (.int .i64 s1) := (cell_of_row _ _ _ _ _ _ hA).trans rfl
  have a1 : w1.cell? ⟨w.heap.size, 1, none⟩ = some (.int .i64 h1) := (cell_of_row _ _ _ _ _ _ hA).trans rfl
  have a2 : w1.cell? ⟨w.heap.size, 2, none⟩ = some (.int .i64 l1) := (cell_of_row _ _ _ _ _ _ hA).trans rfl
  have d0 : w1.cell? ⟨w.heap.size + 1, 0, none⟩ = some (.int .i64 s2) := (cell_of_row _ _ _ _ _ _ hB).trans rfl
  have d1 : w1.cell? ⟨w.heap.size + 1, 1, none⟩ = some (.int .i64 h2) := (cell_of_row _ _ _ _ _ _ hB).trans rfl
  have d2 : w1.cell? ⟨w.heap.size + 1, 2, none⟩ = some (.int .i64 l2) := (cell_of_row _ _ _ _ _ _ hB).trans rfl
  have c0 : w1.cell? ⟨w.heap.size + 1 + 1, 0, none⟩ = some (.int .i64 0) := (cell_of_row _ _ _ _ _ _ hC).trans rfl
  have c1' : w1.cell? ⟨w.heap.size + 1 + 1, 1, none⟩ = some (.int .i64 0) := (cell_of_row _ _ _ _ _ _ hC).trans rfl
  have c2' : w1.cell? ⟨w.heap.size + 1 + 1, 2, none⟩ = some (.int .i64 0) := (cell_of_row _ _ _ _ _ _ hC).trans rfl
  have HC := Lib.hid hC
  clear hA hB hC
  go_wp2
  go_region
  go_wp2
  all_goals refine bodyPost_ret (results_cell_row rfl _ _ (w.heap.size + 1 + 1) 71 _ (0, 0) _ rfl (set3 _ _ _ HC.out) Try.underlying71 rfl info49) rfl ?_
  all_goals exact ⟨agg3 rfl (by omega) (by omega), (((HB.out.setCell (by simp; omega) _).setCell (by simp; omega) _).setCell (by simp; omega) _).drew⟩

set_option maxHeartbeats 2000000 in
theorem plus_plain (s1 s2 : Int) (h1 l1 h2 l2 : Nat) (hs1 : (s1 == 0) = false) (hs2 : (s2 == 0) = false) (hs : (s1 == s2) = false) (b1 : h1 ≤ 2305843009213693952) (b2 : h2 ≤ 2305843009213693952) (c1 : l1 < 1152921504606846976) (c2 : l2 < 1152921504606846976) (h : h2 ≤ h1) (hl : l2 ≤ l1) (hn : h2 < h1 ∨ l2 < l1) (w : World) :
    Calls Try.prog 67 #[.agg #[.int .i64 s1, .int .i64 h1, .int .i64 l1], .agg #[.int .i64 s2, .int .i64 h2, .int .i64 l2]] w fun e w' => e = .returned (.agg #[.int .i64 s1, .int .i64 ((h1 : Int) - h2), .int .i64 ((l1 : Int) - l2)]) ∧ Below w.heap.size w w' := by
  have HL := Lib.hid fun w => less_raw s1 s2 h1 l1 h2 l2 w
  rw [decide_eq_false (show ¬ (h1 < h2 ∨ h1 = h2 ∧ l1 < l2) by omega)] at HL
  have g1 : ¬ (l1 : Int) - l2 < 0 := by omega
  have g2 : ((h1 : Int) - h2 = 0) → ¬ ((l1 : Int) - l2 = 0) := by omega
  go_enter Try.func67, Try.ntmps67
  go_wp2_with fail
  refine (HL.out _).mono ?_
  rintro e w1 ⟨rfl, hb⟩
  have hA : w1.heap[w.heap.size]? = some (.cells #[.int .i64 s1, .int .i64 h1, .int .i64 l1] 71 (0, 0)) := (hb.block _ (by simp; omega)).trans (heap3_0 w _ _ _)
  have hB : w1.heap[w.heap.size + 1]? = some (.cells #[.int .i64 s2, .int .i64 h2, .int .i64 l2] 71 (0, 0)) := (hb.block _ (by simp)).trans (heap3_1 w _ _ _)
  have hC : w1.heap[w.heap.size + 1 + 1]? = some (.cells #[.int .i64 0, .int .i64 0, .int .i64 0] 71 (0, 0)) := (hb.block _ (by simp)).trans (heap3_2 w _ _ _)
  have HB : Hid (Below w.heap.size w w1) := (below3 w _ _ _).trans (hb.mono (by simp; omega))
  clear hb HL
  have fA : ∀ j, w1.frozen? ⟨w.heap.size, j, none⟩ = false := fun j => frozen_of_row _ _ _ _ _ hA
  have fB : ∀ j, w1.frozen? ⟨w.heap.size + 1, j, none⟩ = false := fun j => frozen_of_row _ _ _ _ _ hB
  have fC : ∀ j, w1.frozen? ⟨w.heap.size + 1 + 1, j, none⟩ = false := fun j => frozen_of_row _ _ _ _ _ hC
  have a0 : w1.cell? ⟨w.heap.size, 0, none⟩ = some (.int .i64 s1) := (cell_of_row _ _ _ _ _ _ hA).trans rfl
  have a1 : w1.cell? ⟨w.heap.size, 1, none⟩ = some (.int .i64 h1) := (cell_of_row _ _ _ _ _ _ hA).trans rfl
  have a2 : w1.cell? ⟨w.heap.size, 2, none⟩ = some (.int .i64 l1) := (cell_of_row _ _ _ _ _ _ hA).trans rfl
  have d0 : w1.cell? ⟨w.heap.size + 1, 0, none⟩ = some (.int .i64 s2) := (cell_of_row _ _ _ _ _ _ hB).trans rfl
  have d1 : w1.cell? ⟨w.heap.size + 1, 1, none⟩ = some (.int .i64 h2) := (cell_of_row _ _ _ _ _ _ hB).trans rfl
  have d2 : w1.cell? ⟨w.heap.size + 1, 2, none⟩ = some (.int .i64 l2) := (cell_of_row _ _ _ _ _ _ hB).trans rfl
  have c0 : w1.cell? ⟨w.heap.size + 1 + 1, 0, none⟩ = some (.int .i64 0) := (cell_of_row _ _ _ _ _ _ hC).trans rfl
  have c1' : w1.cell? ⟨w.heap.size + 1 + 1, 1, none⟩ = some (.int .i64 0) := (cell_of_row _ _ _ _ _ _ hC).trans rfl
  have c2' : w1.cell? ⟨w.heap.size + 1 + 1, 2, none⟩ = some (.int .i64 0) := (cell_of_row _ _ _ _ _ _ hC).trans rfl
  have HC := Lib.hid hC
  clear hA hB hC
  go_wp2
  go_region
  go_wp2
  all_goals refine bodyPost_ret (results_cell_row rfl _ _ (w.heap.size + 1 + 1) 71 _ (0, 0) _ rfl (set3 _ _ _ HC.out) Try.underlying71 rfl info49) rfl ?_
  all_goals exact ⟨agg3 rfl (by omega) (by omega), (((HB.out.setCell (by simp; omega) _).setCell (by simp; omega) _).setCell (by simp; omega) _).drew⟩

set_option maxHeartbeats 2000000 in
theorem plus_none (s1 s2 : Int) (h1 l1 h2 l2 : Nat) (hs1 : (s1 == 0) = false) (hs2 : (s2 == 0) = false) (hs : (s1 == s2) = false) (b1 : h1 ≤ 2305843009213693952) (b2 : h2 ≤ 2305843009213693952) (c1 : l1 < 1152921504606846976) (c2 : l2 < 1152921504606846976) (h : h1 = h2) (hl : l1 = l2) (w : World) :
    Calls Try.prog 67 #[.agg #[.int .i64 s1, .int .i64 h1, .int .i64 l1], .agg #[.int .i64 s2, .int .i64 h2, .int .i64 l2]] w fun e w' => e = .returned (.agg #[.int .i64 0, .int .i64 0, .int .i64 0]) ∧ Below w.heap.size w w' := by
  have HL := Lib.hid fun w => less_raw s1 s2 h1 l1 h2 l2 w
  rw [decide_eq_false (show ¬ (h1 < h2 ∨ h1 = h2 ∧ l1 < l2) by omega)] at HL
  subst h hl
  go_enter Try.func67, Try.ntmps67
  go_wp2_with fail
  refine (HL.out _).mono ?_
  rintro e w1 ⟨rfl, hb⟩
  have hA : w1.heap[w.heap.size]? = some (.cells #[.int .i64 s1, .int .i64 h1, .int .i64 l1] 71 (0, 0)) := (hb.block _ (by simp; omega)).trans (heap3_0 w _ _ _)
  have hB : w1.heap[w.heap.size + 1]? = some (.cells #[.int .i64 s2, .int .i64 h1, .int .i64 l1] 71 (0, 0)) := (hb.block _ (by simp)).trans (heap3_1 w _ _ _)
  have hC : w1.heap[w.heap.size + 1 + 1]? = some (.cells #[.int .i64 0, .int .i64 0, .int .i64 0] 71 (0, 0)) := (hb.block _ (by simp)).trans (heap3_2 w _ _ _)
  have HB : Hid (Below w.heap.size w w1) := (below3 w _ _ _).trans (hb.mono (by simp; omega))
  clear hb HL
  have fA : ∀ j, w1.frozen? ⟨w.heap.size, j, none⟩ = false := fun j => frozen_of_row _ _ _ _ _ hA
  have fB : ∀ j, w1.frozen? ⟨w.heap.size + 1, j, none⟩ = false := fun j => frozen_of_row _ _ _ _ _ hB
  have fC : ∀ j, w1.frozen? ⟨w.heap.size + 1 + 1, j, none⟩ = false := fun j => frozen_of_row _ _ _ _ _ hC
  have a0 : w1.cell? ⟨w.heap.size, 0, none⟩ = some (.int .i64 s1) := (cell_of_row _ _ _ _ _ _ hA).trans rfl
  have a1 : w1.cell? ⟨w.heap.size, 1, none⟩ = some (.int .i64 h1) := (cell_of_row _ _ _ _ _ _ hA).trans rfl
  have a2 : w1.cell? ⟨w.heap.size, 2, none⟩ = some (.int .i64 l1) := (cell_of_row _ _ _ _ _ _ hA).trans rfl
  have d0 : w1.cell? ⟨w.heap.size + 1, 0, none⟩ = some (.int .i64 s2) := (cell_of_row _ _ _ _ _ _ hB).trans rfl
  have d1 : w1.cell? ⟨w.heap.size + 1, 1, none⟩ = some (.int .i64 h1) := (cell_of_row _ _ _ _ _ _ hB).trans rfl
  have d2 : w1.cell? ⟨w.heap.size + 1, 2, none⟩ = some (.int .i64 l1) := (cell_of_row _ _ _ _ _ _ hB).trans rfl
  have c0 : w1.cell? ⟨w.heap.size + 1 + 1, 0, none⟩ = some (.int .i64 0) := (cell_of_row _ _ _ _ _ _ hC).trans rfl
  have c1' : w1.cell? ⟨w.heap.size + 1 + 1, 1, none⟩ = some (.int .i64 0) := (cell_of_row _ _ _ _ _ _ hC).trans rfl
  have c2' : w1.cell? ⟨w.heap.size + 1 + 1, 2, none⟩ = some (.int .i64 0) := (cell_of_row _ _ _ _ _ _ hC).trans rfl
  have HC := Lib.hid hC
  clear hA hB hC
  go_wp2
  go_region
  go_wp2
  all_goals refine bodyPost_ret (results_cell_row rfl _ _ (w.heap.size + 1 + 1) 71 _ (0, 0) _ rfl (set3 _ _ _ HC.out) Try.underlying71 rfl info49) rfl ?_
  all_goals exact ⟨agg3 rfl (by omega) (by omega), (((HB.out.setCell (by simp; omega) _).setCell (by simp; omega) _).setCell (by simp; omega) _).drew⟩

set_option maxHeartbeats 2000000 in
theorem plus_borrow_swap (s1 s2 : Int) (h1 l1 h2 l2 : Nat) (hs1 : (s1 == 0) = false) (hs2 : (s2 == 0) = false) (hs : (s1 == s2) = false) (b1 : h1 ≤ 2305843009213693952) (b2 : h2 ≤ 2305843009213693952) (c1 : l1 < 1152921504606846976) (c2 : l2 < 1152921504606846976) (h : h1 < h2) (hl : l2 < l1) (w : World) :
    Calls Try.prog 67 #[.agg #[.int .i64 s1, .int .i64 h1, .int .i64 l1], .agg #[.int .i64 s2, .int .i64 h2, .int .i64 l2]] w fun e w' => e = .returned (.agg #[.int .i64 s2, .int .i64 ((h2 : Int) - h1 - 1), .int .i64 ((l2 : Int) - l1 + 1152921504606846976)]) ∧ Below w.heap.size w w' := by
  have HL := Lib.hid fun w => less_raw s1 s2 h1 l1 h2 l2 w
  rw [decide_eq_true (show h1 < h2 ∨ h1 = h2 ∧ l1 < l2 by omega)] at HL
  have g1 : (l2 : Int) - l1 < 0 := by omega
  have g3 : ¬ ((l2 : Int) - l1 + 1152921504606846976 = 0) := by omega
  go_enter Try.func67, Try.ntmps67
  go_wp2_with fail
  refine (HL.out _).mono ?_
  rintro e w1 ⟨rfl, hb⟩
  have hA : w1.heap[w.heap.size]? = some (.cells #[.int .i64 s1, .int .i64 h1, .int .i64 l1] 71 (0, 0)) := (hb.block _ (by simp; omega)).trans (heap3_0 w _ _ _)
  have hB : w1.heap[w.heap.size + 1]? = some (.cells #[.int .i64 s2, .int .i64 h2, .int .i64 l2] 71 (0, 0)) := (hb.block _ (by simp)).trans (heap3_1 w _ _ _)
  have hC : w1.heap[w.heap.size + 1 + 1]? = some (.cells #[.int .i64 0, .int .i64 0, .int .i64 0] 71 (0, 0)) := (hb.block _ (by simp)).trans (heap3_2 w _ _ _)
  have HB : Hid (Below w.heap.size w w1) := (below3 w _ _ _).trans (hb.mono (by simp; omega))
  clear hb HL
  have fA : ∀ j, w1.frozen? ⟨w.heap.size, j, none⟩ = false := fun j => frozen_of_row _ _ _ _ _ hA
  have fB : ∀ j, w1.frozen? ⟨w.heap.size + 1, j, none⟩ = false := fun j => frozen_of_row _ _ _ _ _ hB
  have fC : ∀ j, w1.frozen? ⟨w.heap.size + 1 + 1, j, none⟩ = false := fun j => frozen_of_row _ _ _ _ _ hC
  have a0 : w1.cell? ⟨w.heap.size, 0, none⟩ = some (.int .i64 s1) := (cell_of_row _ _ _ _ _ _ hA).trans rfl
  have a1 : w1.cell? ⟨w.heap.size, 1, none⟩ = some (.int .i64 h1) := (cell_of_row _ _ _ _ _ _ hA).trans rfl
  have a2 : w1.cell? ⟨w.heap.size, 2, none⟩ = some (.int .i64 l1) := (cell_of_row _ _ _ _ _ _ hA).trans rfl
  have d0 : w1.cell? ⟨w.heap.size + 1, 0, none⟩ = some (.int .i64 s2) := (cell_of_row _ _ _ _ _ _ hB).trans rfl
  have d1 : w1.cell? ⟨w.heap.size + 1, 1, none⟩ = some (.int .i64 h2) := (cell_of_row _ _ _ _ _ _ hB).trans rfl
  have d2 : w1.cell? ⟨w.heap.size + 1, 2, none⟩ = some (.int .i64 l2) := (cell_of_row _ _ _ _ _ _ hB).trans rfl
  have c0 : w1.cell? ⟨w.heap.size + 1 + 1, 0, none⟩ = some (.int .i64 0) := (cell_of_row _ _ _ _ _ _ hC).trans rfl
  have c1' : w1.cell? ⟨w.heap.size + 1 + 1, 1, none⟩ = some (.int .i64 0) := (cell_of_row _ _ _ _ _ _ hC).trans rfl
  have c2' : w1.cell? ⟨w.heap.size + 1 + 1, 2, none⟩ = some (.int .i64 0) := (cell_of_row _ _ _ _ _ _ hC).trans rfl
  have h6 := six_world (x0 := .int .i64 s2) (x1 := .int .i64 h2) (x2 := .int .i64 l2) (x3 := .int .i64 s1) (x4 := .int .i64 h1) (x5 := .int .i64 l1) hA hB hC HB.out
  obtain ⟨w5, hW6⟩ : ∃ w5, w5 = ((((((w1.setCell ⟨w.heap.size, 0, none⟩ (.int .i64 s2)).setCell ⟨w.heap.size, 1, none⟩ (.int .i64 h2)).setCell ⟨w.heap.size, 2, none⟩ (.int .i64 l2)).setCell ⟨w.heap.size + 1, 0, none⟩ (.int .i64 s1)).setCell ⟨w.heap.size + 1, 1, none⟩ (.int .i64 h1)).setCell ⟨w.heap.size + 1, 2, none⟩ (.int .i64 l1)) := ⟨_, rfl⟩
  rw [← hW6] at h6
  have H6 := Lib.hid h6
  have HW6 := Lib.hid hW6
  clear h6 hW6 HB
  have HC := Lib.hid hC
  clear hA hB hC
  go_wp2
  rw [← HW6.out]
  clear fA fB fC a0 a1 a2 d0 d1 d2 c0 c1' c2' HC HW6
  have a0 : w5.cell? ⟨w.heap.size, 0, none⟩ = some (.int .i64 s2) := (cell_of_row _ _ _ _ _ _ H6.out.1).trans rfl
  have a1 : w5.cell? ⟨w.heap.size, 1, none⟩ = some (.int .i64 h2) := (cell_of_row _ _ _ _ _ _ H6.out.1).trans rfl
  have a2 : w5.cell? ⟨w.heap.size, 2, none⟩ = some (.int .i64 l2) := (cell_of_row _ _ _ _ _ _ H6.out.1).trans rfl
  have d1 : w5.cell? ⟨w.heap.size + 1, 1, none⟩ = some (.int .i64 h1) := (cell_of_row _ _ _ _ _ _ H6.out.2.1).trans rfl
  have d2 : w5.cell? ⟨w.heap.size + 1, 2, none⟩ = some (.int .i64 l1) := (cell_of_row _ _ _ _ _ _ H6.out.2.1).trans rfl
  have c0 : w5.cell? ⟨w.heap.size + 1 + 1, 0, none⟩ = some (.int .i64 0) := (cell_of_row _ _ _ _ _ _ H6.out.2.2.1).trans rfl
  have c1' : w5.cell? ⟨w.heap.size + 1 + 1, 1, none⟩ = some (.int .i64 0) := (cell_of_row _ _ _ _ _ _ H6.out.2.2.1).trans rfl
  have c2' : w5.cell? ⟨w.heap.size + 1 + 1, 2, none⟩ = some (.int .i64 0) := (cell_of_row _ _ _ _ _ _ H6.out.2.2.1).trans rfl
  have fC : ∀ j, w5.frozen? ⟨w.heap.size + 1 + 1, j, none⟩ = false := fun j => frozen_of_row _ _ _ _ _ H6.out.2.2.1
  have HC := Lib.hid H6.out.2.2.1
  have HB := Lib.hid H6.out.2.2.2
  clear H6
  go_region
  go_wp2
  all_goals refine bodyPost_ret (results_cell_row rfl _ _ (w.heap.size + 1 + 1) 71 _ (0, 0) _ rfl (set3 _ _ _ HC.out) Try.underlying71 rfl info49) rfl ?_
  all_goals exact ⟨agg3 rfl (by omega) (by omega), (((HB.out.setCell (by simp; omega) _).setCell (by simp; omega) _).setCell (by simp; omega) _).drew⟩

set_option maxHeartbeats 2000000 in
theorem plus_plain_swap (s1 s2 : Int) (h1 l1 h2 l2 : Nat) (hs1 : (s1 == 0) = false) (hs2 : (s2 == 0) = false) (hs : (s1 == s2) = false) (b1 : h1 ≤ 2305843009213693952) (b2 : h2 ≤ 2305843009213693952) (c1 : l1 < 1152921504606846976) (c2 : l2 < 1152921504606846976) (h : h1 ≤ h2) (hl : l1 ≤ l2) (hn : h1 < h2 ∨ l1 < l2) (w : World) :
    Calls Try.prog 67 #[.agg #[.int .i64 s1, .int .i64 h1, .int .i64 l1], .agg #[.int .i64 s2, .int .i64 h2, .int .i64 l2]] w fun e w' => e = .returned (.agg #[.int .i64 s2, .int .i64 ((h2 : Int) - h1), .int .i64 ((l2 : Int) - l1)]) ∧ Below w.heap.size w w' := by
  have HL := Lib.hid fun w => less_raw s1 s2 h1 l1 h2 l2 w
  rw [decide_eq_true (show h1 < h2 ∨ h1 = h2 ∧ l1 < l2 by omega)] at HL
  have g1 : ¬ (l2 : Int) - l1 < 0 := by omega
  have g2 : ((h2 : Int) - h1 = 0) → ¬ ((l2 : Int) - l1 = 0) := by omega
  go_enter Try.func67, Try.ntmps67
  go_wp2_with fail
  refine (HL.out _).mono ?_
  rintro e w1 ⟨rfl, hb⟩
  have hA : w1.heap[w.heap.size]? = some (.cells #[.int .i64 s1, .int .i64 h1, .int .i64 l1] 71 (0, 0)) := (hb.block _ (by simp; omega)).trans (heap3_0 w _ _ _)
  have hB : w1.heap[w.heap.size + 1]? = some (.cells #[.int .i64 s2, .int .i64 h2, .int .i64 l2] 71 (0, 0)) := (hb.block _ (by simp)).trans (heap3_1 w _ _ _)
  have hC : w1.heap[w.heap.size + 1 + 1]? = some (.cells #[.int .i64 0, .int .i64 0, .int .i64 0] 71 (0, 0)) := (hb.block _ (by simp)).trans (heap3_2 w _ _ _)
  have HB : Hid (Below w.heap.size w w1) := (below3 w _ _ _).trans (hb.mono (by simp; omega))
  clear hb HL
  have fA : ∀ j, w1.frozen? ⟨w.heap.size, j, none⟩ = false := fun j => frozen_of_row _ _ _ _ _ hA
  have fB : ∀ j, w1.frozen? ⟨w.heap.size + 1, j, none⟩ = false := fun j => frozen_of_row _ _ _ _ _ hB
  have fC : ∀ j, w1.frozen? ⟨w.heap.size + 1 + 1, j, none⟩ = false := fun j => frozen_of_row _ _ _ _ _ hC
  have a0 : w1.cell? ⟨w.heap.size, 0, none⟩ = some (.int .i64 s1) := (cell_of_row _ _ _ _ _ _ hA).trans rfl
  have a1 : w1.cell? ⟨w.heap.size, 1, none⟩ = some (.int .i64 h1) := (cell_of_row _ _ _ _ _ _ hA).trans rfl
  have a2 : w1.cell? ⟨w.heap.size, 2, none⟩ = some (.int .i64 l1) := (cell_of_row _ _ _ _ _ _ hA).trans rfl
  have d0 : w1.cell? ⟨w.heap.size + 1, 0, none⟩ = some (.int .i64 s2) := (cell_of_row _ _ _ _ _ _ hB).trans rfl
  have d1 : w1.cell? ⟨w.heap.size + 1, 1, none⟩ = some (.int .i64 h2) := (cell_of_row _ _ _ _ _ _ hB).trans rfl
  have d2 : w1.cell? ⟨w.heap.size + 1, 2, none⟩ = some (.int .i64 l2) := (cell_of_row _ _ _ _ _ _ hB).trans rfl
  have c0 : w1.cell? ⟨w.heap.size + 1 + 1, 0, none⟩ = some (.int .i64 0) := (cell_of_row _ _ _ _ _ _ hC).trans rfl
  have c1' : w1.cell? ⟨w.heap.size + 1 + 1, 1, none⟩ = some (.int .i64 0) := (cell_of_row _ _ _ _ _ _ hC).trans rfl
  have c2' : w1.cell? ⟨w.heap.size + 1 + 1, 2, none⟩ = some (.int .i64 0) := (cell_of_row _ _ _ _ _ _ hC).trans rfl
  have h6 := six_world (x0 := .int .i64 s2) (x1 := .int .i64 h2) (x2 := .int .i64 l2) (x3 := .int .i64 s1) (x4 := .int .i64 h1) (x5 := .int .i64 l1) hA hB hC HB.out
  obtain ⟨w5, hW6⟩ : ∃ w5, w5 = ((((((w1.setCell ⟨w.heap.size, 0, none⟩ (.int .i64 s2)).setCell ⟨w.heap.size, 1, none⟩ (.int .i64 h2)).setCell ⟨w.heap.size, 2, none⟩ (.int .i64 l2)).setCell ⟨w.heap.size + 1, 0, none⟩ (.int .i64 s1)).setCell ⟨w.heap.size + 1, 1, none⟩ (.int .i64 h1)).setCell ⟨w.heap.size + 1, 2, none⟩ (.int .i64 l1)) := ⟨_, rfl⟩
  rw [← hW6] at h6
  have H6 := Lib.hid h6
  have HW6 := Lib.hid hW6
  clear h6 hW6 HB
  have HC := Lib.hid hC
  clear hA hB hC
  go_wp2
  rw [← HW6.out]
  clear fA fB fC a0 a1 a2 d0 d1 d2 c0 c1' c2' HC HW6
  have a0 : w5.cell? ⟨w.heap.size, 0, none⟩ = some (.int .i64 s2) := (cell_of_row _ _ _ _ _ _ H6.out.1).trans rfl
  have a1 : w5.cell? ⟨w.heap.size, 1, none⟩ = some (.int .i64 h2) := (cell_of_row _ _ _ _ _ _ H6.out.1).trans rfl
  have a2 : w5.cell? ⟨w.heap.size, 2, none⟩ = some (.int .i64 l2) := (cell_of_row _ _ _ _ _ _ H6.out.1).trans rfl
  have d1 : w5.cell? ⟨w.heap.size + 1, 1, none⟩ = some (.int .i64 h1) := (cell_of_row _ _ _ _ _ _ H6.out.2.1).trans rfl
  have d2 : w5.cell? ⟨w.heap.size + 1, 2, none⟩ = some (.int .i64 l1) := (cell_of_row _ _ _ _ _ _ H6.out.2.1).trans rfl
  have c0 : w5.cell? ⟨w.heap.size + 1 + 1, 0, none⟩ = some (.int .i64 0) := (cell_of_row _ _ _ _ _ _ H6.out.2.2.1).trans rfl
  have c1' : w5.cell? ⟨w.heap.size + 1 + 1, 1, none⟩ = some (.int .i64 0) := (cell_of_row _ _ _ _ _ _ H6.out.2.2.1).trans rfl
  have c2' : w5.cell? ⟨w.heap.size + 1 + 1, 2, none⟩ = some (.int .i64 0) := (cell_of_row _ _ _ _ _ _ H6.out.2.2.1).trans rfl
  have fC : ∀ j, w5.frozen? ⟨w.heap.size + 1 + 1, j, none⟩ = false := fun j => frozen_of_row _ _ _ _ _ H6.out.2.2.1
  have HC := Lib.hid H6.out.2.2.1
  have HB := Lib.hid H6.out.2.2.2
  clear H6
  go_region
  go_wp2
  all_goals refine bodyPost_ret (results_cell_row rfl _ _ (w.heap.size + 1 + 1) 71 _ (0, 0) _ rfl (set3 _ _ _ HC.out) Try.underlying71 rfl info49) rfl ?_
  all_goals exact ⟨agg3 rfl (by omega) (by omega), (((HB.out.setCell (by simp; omega) _).setCell (by simp; omega) _).setCell (by simp; omega) _).drew⟩

end Go.Proofs.Ytbiegbnncnjnmaa.Rat
