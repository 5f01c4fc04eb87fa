/- Layer 12: the program's ceiling. -/
import Derived.Test.YtffnopdpndpngaaMLi
import Derived.Test.YtffnopdpndpngaaMPq
set_option linter.unusedVariables false
set_option linter.unusedSimpArgs false
namespace Go.Proofs.Ytffnopdpndpngaa.Lh
open Go.RowKit
set_option maxHeartbeats 1000000 in
theorem ceiling_any (n : Int) (D : Nat) (hx : Rat.chk n D) (w : World) :
    Calls Try.prog 51 #[.agg #[.int .i64 n, .int .i64 D]] w fun e w' => e = .returned (.int .i64 (-(-n / (D : Int)))) ∧ Below w.heap.size w w' := by
  have hy : Rat.chk (-n) D := by
    obtain ⟨h1, h2, h3⟩ := hx
    exact ⟨h1, by omega, by rw [Int.natAbs_neg]; exact h3⟩
  have C := Lib.hid (fun w => Pro.floor_yes (-n) D hy w)
  obtain ⟨⟨d1, d2⟩, ⟨n1, n2⟩, _⟩ := hx
  have hb : -1152921504606846976 ≤ -n / (D : Int) ∧ -n / (D : Int) ≤ 1152921504606846976 := by
    have hD : (0 : Int) < D := by omega
    have h1 := Int.emod_nonneg (-n) (show (D : Int) ≠ 0 by omega)
    have h2 := Int.emod_lt_of_pos (-n) hD
    have h3 := Int.mul_ediv_add_emod (-n) D
    generalize -n / (D : Int) = f at *
    generalize -n % (D : Int) = r at *
    constructor
    · by_cases h : f < -1152921504606846976
      · have : (D : Int) * f ≤ 1 * f := Int.mul_le_mul_of_nonpos_right (by omega) (by omega)
        have : (D : Int) * f ≤ D * (-1152921504606846977) := Int.mul_le_mul_of_nonneg_left (by omega) (by omega)
        omega
      · omega
    · by_cases h : 1152921504606846976 < f
      · have : 1 * f ≤ (D : Int) * f := Int.mul_le_mul_of_nonneg_right (by omega) (by omega)
        omega
      · omega
  have HN : Hid (-(-n / (D : Int)) = -(-n / (D : Int))) := rfl
  generalize -n / (D : Int) = f at *
  have hw1 : wrap64 (-n) = -n := by unfold wrap64; omega
  have hw2 : wrap64 (-f) = -f := by unfold wrap64; omega
  have hw3 : IntKind.i64.wrap (-n) = -n := by rw [IntWalk.i64_in _ (by omega)]
  have hw4 : IntKind.i64.wrap (-f) = -f := by rw [IntWalk.i64_in _ (by omega)]
  have B0 : Hid (Below w.heap.size w (w.alloc (.cells #[.int .i64 n, .int .i64 D] 42))) := (Below.refl _ w).alloc (Nat.le_refl _) _
  go_enter Try.func51, Try.ntmps51
  go_wp2_with (go_at_call 75; (with_reducible refine (C.out _).mono ?_); rintro e w1 ⟨rfl, hb1⟩; have HB := Lib.hid (B0.out.trans (hb1.mono B0.out.size)); clear hb1)
  go_ret
  exact ⟨rfl, HB.out⟩
end Go.Proofs.Ytffnopdpndpngaa.Lh
