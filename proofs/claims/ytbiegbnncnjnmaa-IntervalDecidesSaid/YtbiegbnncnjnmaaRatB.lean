/- The contracts of the reference of layer 3: times. -/
import Derived.Test.YtbiegbnncnjnmaaRatA
import Derived.Laws.Rows
set_option linter.unusedVariables false
set_option linter.unusedSimpArgs false
namespace Go.Proofs.Ytbiegbnncnjnmaa.Rat
open Go.RowKit

theorem info49 : (Try.prog.info? 71).map (·.size) = some 3 := by kernel_rfl

set_option maxHeartbeats 1000000 in
theorem times_any (x y : Int) (hx : x.natAbs ≤ 1152921504606846976) (hy : y.natAbs ≤ 1152921504606846976) (w : World) :
    Calls Try.prog 68 #[.int .i64 x, .int .i64 y] w fun e w' => e = .returned (wid (x * y)) ∧ Below w.heap.size w w' := by
  by_cases hx0 : x = 0
  · subst hx0
    rw [Int.zero_mul]
    go_enter Try.func68, Try.ntmps68
    go_wp2
    refine bodyPost_ret (results_cell_row rfl _ _ w.heap.size 71 _ (0, 0) _ rfl (heap_alloc_new w _) Try.underlying71 rfl info49) rfl ?_
    exact ⟨rfl, (Below.refl _ _).alloc (Nat.le_refl _) _⟩
  · by_cases hy0 : y = 0
    · subst hy0
      rw [Int.mul_zero]
      have hx1 : ¬ (x == 0) = true := by simp [hx0]
      go_enter Try.func68, Try.ntmps68
      go_wp2
      refine bodyPost_ret (results_cell_row rfl _ _ w.heap.size 71 _ (0, 0) _ rfl (heap_alloc_new w _) Try.underlying71 rfl info49) rfl ?_
      exact ⟨rfl, (Below.refl _ _).alloc (Nat.le_refl _) _⟩
    · have hx1 : ¬ (x == 0) = true := by simp [hx0]
      have hy1 : ¬ (y == 0) = true := by simp [hy0]
      have Q1 := Lib.hid fun w => abs_any x (by omega) (by omega) w
      have Q2 := Lib.hid fun w => abs_any y (by omega) (by omega) w
      have hb := prod_bounds x.natAbs y.natAbs hx hy
      obtain ⟨hw1, hw2⟩ := prod_int x.natAbs y.natAbs
      have HW1 := Lib.hid hw1
      have HW2 := Lib.hid hw2
      clear hw1 hw2
      have HN : Hid ((x * y).natAbs = x.natAbs * y.natAbs) := Int.natAbs_mul x y
      by_cases hs : x < 0
      · by_cases ht : y < 0
        · have HS : Hid ((x * y).sign = 1) := Int.sign_eq_one_of_pos (Int.mul_pos_of_neg_of_neg hs ht)
          generalize x.natAbs = X at *
          generalize y.natAbs = Y at *
          go_enter Try.func68, Try.ntmps68
          go_wp2_with fail
          refine (Q1.out _).mono ?_
          rintro e w1 ⟨rfl, rfl⟩
          go_wp2_with fail
          refine (Q2.out _).mono ?_
          rintro e w2 ⟨rfl, rfl⟩
          go_wp2
          refine bodyPost_ret (results_cell_row rfl _ _ w.heap.size 71 _ (0, 0) _ rfl (heap_alloc_new w _) Try.underlying71 rfl info49) rfl ?_
          exact ⟨by unfold wid; rw [HS.out, HN.out, HW1.out, HW2.out], (Below.refl _ _).alloc (Nat.le_refl _) _⟩
        · have HS : Hid ((x * y).sign = -1) := Int.sign_eq_neg_one_of_neg (Int.mul_neg_of_neg_of_pos hs (by omega))
          generalize x.natAbs = X at *
          generalize y.natAbs = Y at *
          go_enter Try.func68, Try.ntmps68
          go_wp2_with fail
          refine (Q1.out _).mono ?_
          rintro e w1 ⟨rfl, rfl⟩
          go_wp2_with fail
          refine (Q2.out _).mono ?_
          rintro e w2 ⟨rfl, rfl⟩
          go_wp2
          refine bodyPost_ret (results_cell_row rfl _ _ w.heap.size 71 _ (0, 0) _ rfl (heap_alloc_new w _) Try.underlying71 rfl info49) rfl ?_
          exact ⟨by unfold wid; rw [HS.out, HN.out, HW1.out, HW2.out], (Below.refl _ _).alloc (Nat.le_refl _) _⟩
      · by_cases ht : y < 0
        · have HS : Hid ((x * y).sign = -1) := Int.sign_eq_neg_one_of_neg (Int.mul_neg_of_pos_of_neg (by omega) ht)
          generalize x.natAbs = X at *
          generalize y.natAbs = Y at *
          go_enter Try.func68, Try.ntmps68
          go_wp2_with fail
          refine (Q1.out _).mono ?_
          rintro e w1 ⟨rfl, rfl⟩
          go_wp2_with fail
          refine (Q2.out _).mono ?_
          rintro e w2 ⟨rfl, rfl⟩
          go_wp2
          refine bodyPost_ret (results_cell_row rfl _ _ w.heap.size 71 _ (0, 0) _ rfl (heap_alloc_new w _) Try.underlying71 rfl info49) rfl ?_
          exact ⟨by unfold wid; rw [HS.out, HN.out, HW1.out, HW2.out], (Below.refl _ _).alloc (Nat.le_refl _) _⟩
        · have HS : Hid ((x * y).sign = 1) := Int.sign_eq_one_of_pos (Int.mul_pos (by omega) (by omega))
          generalize x.natAbs = X at *
          generalize y.natAbs = Y at *
          go_enter Try.func68, Try.ntmps68
          go_wp2_with fail
          refine (Q1.out _).mono ?_
          rintro e w1 ⟨rfl, rfl⟩
          go_wp2_with fail
          refine (Q2.out _).mono ?_
          rintro e w2 ⟨rfl, rfl⟩
          go_wp2
          refine bodyPost_ret (results_cell_row rfl _ _ w.heap.size 71 _ (0, 0) _ rfl (heap_alloc_new w _) Try.underlying71 rfl info49) rfl ?_
          exact ⟨by unfold wid; rw [HS.out, HN.out, HW1.out, HW2.out], (Below.refl _ _).alloc (Nat.le_refl _) _⟩
end Go.Proofs.Ytbiegbnncnjnmaa.Rat
