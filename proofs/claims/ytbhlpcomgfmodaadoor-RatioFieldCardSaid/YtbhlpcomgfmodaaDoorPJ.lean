/- The program's reduced. -/
import Derived.Test.YtbhlpcomgfmodaaDoorPI
import Derived.Test.YtbhlpcomgfmodaaDoorPG
import Derived.Test.YtbhlpcomgfmodaaDoorRatQ
set_option linter.unusedVariables false
set_option linter.unusedSimpArgs false
namespace Go.Proofs.YtbhlpcomgfmodaaDoor.Pro
open Go.RowKit

/-- A number, if it fits. -/
def fit (a : Nat) : Option Int := if a ≤ 1152921504606846976 then some (a : Int) else none
/-- What is so small that nothing overflows. -/
def far (z : Int) : Prop := z.natAbs < 85070591730234615865843651857942052864
theorem narrow_any (a : Nat) (h : a < 85070591730234615865843651857942052864) (w : World) :
    Calls Tryd.prog 59 #[W a] w fun e w' => e = narE (fit a) ∧ Below w.heap.size w w' := by
  unfold fit
  by_cases h1 : a ≤ 1152921504606846976
  · rw [if_pos h1]; exact narrow_yes a h1 w
  · rw [if_neg h1]; exact narrow_no a h1 (by unfold near; omega) w
def redV (num den : Int) : Ending := redE (fit (num.natAbs / Nat.gcd num.natAbs den.natAbs)) (fit (den.natAbs / Nat.gcd num.natAbs den.natAbs)) (decide (num < 0) == decide (den < 0))
theorem reduced_any (num den : Int) (hn : far num) (hd : far den) (h0 : den ≠ 0) (w : World) :
    Calls Tryd.prog 35 #[W num, W den] w fun e w' => e = redV num den ∧ Below w.heap.size w w' := by
  unfold far at hn hd
  have hg : 0 < Nat.gcd num.natAbs den.natAbs := Nat.gcd_pos_of_pos_right _ (by omega)
  have hgl : Nat.gcd num.natAbs den.natAbs ≤ den.natAbs := Nat.gcd_le_right _ (by omega)
  have q1 : num.natAbs / Nat.gcd num.natAbs den.natAbs ≤ num.natAbs := Nat.div_le_self _ _
  have q2 : den.natAbs / Nat.gcd num.natAbs den.natAbs ≤ den.natAbs := Nat.div_le_self _ _
  refine reduced_raw _ _ _ _ _ _ _ _ _ _ _ _ _ _ _ _ _ _ _ _ _ _ ?_
    (Lib.hid fun w => magnitude_any num (by unfold near; omega) (by unfold near; omega) w)
    (Lib.hid fun w => magnitude_any den (by unfold near; omega) (by unfold near; omega) w)
    (Lib.hid fun w => gcd_any num.natAbs den.natAbs hn hd w)
    (Lib.hid fun w => divide_any num.natAbs (Nat.gcd num.natAbs den.natAbs) hg (by omega) hn w)
    (Lib.hid fun w => divide_any den.natAbs (Nat.gcd num.natAbs den.natAbs) hg (by omega) hd w)
    (Lib.hid fun w => narrow_any _ (by omega) w)
    (Lib.hid fun w => narrow_any _ (by omega) w)
    (Lib.hid fun w => negative_any num (by omega) (by omega) w)
    (Lib.hid fun w => negative_any den (by omega) (by omega) w) w
  intro x hx
  unfold fit at hx
  generalize num.natAbs / Nat.gcd num.natAbs den.natAbs = q at hx
  split at hx
  · injection hx with hx; omega
  · cases hx
/-- What a fraction that is to be reduced comes to: the reference's words for it. -/
theorem redV_pair (num den : Int) (h0 : den ≠ 0) :
    (∃ a b : Int, redV num den = .returned (.agg #[.int .i64 a, .int .i64 b]) ∧ Rat.makeOut num den = .tuple #[.agg #[.int .i64 a, .int .i64 b], .int .i64 0]) ∨
    (redV num den = over ∧ Rat.makeOut num den = .tuple #[.agg #[.int .i64 0, .int .i64 0], .int .i64 14]) := by
  unfold redV Rat.makeOut
  have hs : ∀ A : Nat, (if (decide (num < 0) == decide (den < 0)) then (A : Int) else -(A : Int)) = num.sign * den.sign * (A : Int) ∨ num = 0 := by
    intro A
    rcases Int.lt_trichotomy num 0 with h1 | h1 | h1
    · left
      rcases Int.lt_or_gt_of_ne h0 with h2 | h2
      · rw [decide_eq_true h1, decide_eq_true h2, Rat.sign_neg' h1, Rat.sign_neg' h2]; simp
      · rw [decide_eq_true h1, decide_eq_false (show ¬ den < 0 by omega), Rat.sign_neg' h1, Rat.sign_pos' h2]; simp
    · exact .inr h1
    · left
      rcases Int.lt_or_gt_of_ne h0 with h2 | h2
      · rw [decide_eq_false (show ¬ num < 0 by omega), decide_eq_true h2, Rat.sign_pos' h1, Rat.sign_neg' h2]; simp
      · rw [decide_eq_false (show ¬ num < 0 by omega), decide_eq_false (show ¬ den < 0 by omega), Rat.sign_pos' h1, Rat.sign_pos' h2]; simp
  have hz : num = 0 → num.natAbs / Nat.gcd num.natAbs den.natAbs = 0 := fun h => by subst h; simp
  generalize num.natAbs / Nat.gcd num.natAbs den.natAbs = A at *
  generalize den.natAbs / Nat.gcd num.natAbs den.natAbs = B at *
  have habs : (num.sign * den.sign * (A : Int)).natAbs = A := by
    rcases hs A with h | h
    · rw [← h]; split <;> simp
    · rw [hz h]; simp
  by_cases hA : A ≤ 1152921504606846976
  · by_cases hB : B ≤ 1152921504606846976
    · left
      refine ⟨num.sign * den.sign * (A : Int), (B : Int), ?_, Rat.pairOut_yes (by rw [habs]; exact hA) (by simpa using hB)⟩
      unfold fit
      rw [if_pos hA, if_pos hB]
      unfold redE
      rcases hs A with h | h
      · rw [← h]
      · have hz' := hz h
        subst hz'
        simp
    · right
      refine ⟨?_, Rat.pairOut_no (by rw [habs]; simpa using fun _ => by omega)⟩
      unfold fit redE
      rw [if_pos hA, if_neg hB]
  · right
    refine ⟨?_, Rat.pairOut_no (by rw [habs]; simpa using fun h => absurd h (by omega))⟩
    unfold fit redE
    rw [if_neg hA]
end Go.Proofs.YtbhlpcomgfmodaaDoor.Pro
