/- What the fractions' operations come to: Lean's own rationals. -/
import Derived.Test.YtbiegbnncnjnmaaRatN
set_option linter.unusedVariables false
set_option linter.unusedSimpArgs false
namespace Go.Proofs.Ytbiegbnncnjnmaa.Rat
open Go.RowKit

theorem big_eq : big = 1152921504606846976 := rfl
theorem chk_valid {n : Int} {D : Nat} (h : chk n D) : Valid n D := by
  obtain ⟨h1, h2, h3⟩ := h
  refine ⟨by omega, ?_, ?_, h3⟩ <;> unfold big <;> omega
theorem valid_chk {n : Int} {D : Nat} (h : Valid n D) : chk n D := by
  obtain ⟨h1, h2, h3, h4⟩ := h
  unfold big at h2 h3
  exact ⟨⟨by omega, by omega⟩, ⟨by omega, by omega⟩, h4⟩
theorem chk_nat {n d : Int} (h : chk n d) : ∃ D : Nat, d = D ∧ chk n D := by
  obtain ⟨D, rfl⟩ := Int.eq_ofNat_of_zero_le (show 0 ≤ d by have := h.1.1; omega)
  exact ⟨D, rfl, h⟩
/-- A rational, or that it does not fit. -/
def outQ (q : Rat) : Value := pairOut q.num q.den
theorem outQ_yes {q : Rat} (h : FitsQ q) : outQ q = .tuple #[rat q.num q.den, .int .i64 0] := if_pos (by unfold FitsQ big at h; rw [Int.natAbs_natCast]; exact h)
theorem outQ_no {q : Rat} (h : ¬ FitsQ q) : outQ q = .tuple #[rat 0 0, .int .i64 14] := if_neg (by unfold FitsQ big at h; rw [Int.natAbs_natCast]; exact h)

theorem mulOut_Q {n1 n2 : Int} {D1 D2 : Nat} (hx : chk n1 D1) (hy : chk n2 D2) : mulOut n1 D1 n2 D2 = outQ (toQ n1 D1 * toQ n2 D2) := by
  have vx := chk_valid hx
  have vy := chk_valid hy
  have h := mul_alg (toQ n1 D1) (toQ n2 D2) _ _ rfl rfl
  rw [vx.num, vx.den, vy.num, vy.den] at h
  unfold mulOut outQ
  rw [h.1, h.2]
  push_cast
  rfl
/-- A sum of two fractions, as it is handed back. -/
def addOut (n1 : Int) (D1 : Nat) (n2 : Int) (D2 : Nat) : Value :=
  pairOut ((n1 * ((D2 : Int) / (Nat.gcd D1 D2 : Nat)) + n2 * ((D1 : Int) / (Nat.gcd D1 D2 : Nat))) / (Nat.gcd (Nat.gcd D1 D2) (n1 * ((D2 : Int) / (Nat.gcd D1 D2 : Nat)) + n2 * ((D1 : Int) / (Nat.gcd D1 D2 : Nat))).natAbs : Nat))
    ((D1 : Int) / (Nat.gcd D1 D2 : Nat) * ((D2 : Int) / (Nat.gcd (Nat.gcd D1 D2) (n1 * ((D2 : Int) / (Nat.gcd D1 D2 : Nat)) + n2 * ((D1 : Int) / (Nat.gcd D1 D2 : Nat))).natAbs : Nat)))
theorem addOut_Q {n1 n2 : Int} {D1 D2 : Nat} (hx : chk n1 D1) (hy : chk n2 D2) : addOut n1 D1 n2 D2 = outQ (toQ n1 D1 + toQ n2 D2) := by
  have vx := chk_valid hx
  have vy := chk_valid hy
  have h := add_alg (toQ n1 D1) (toQ n2 D2) _ _ _ rfl rfl rfl
  rw [vx.num, vx.den, vy.num, vy.den] at h
  unfold addOut outQ
  rw [h.1, h.2]
  push_cast
  rfl
theorem toQ_neg (n : Int) (D : Nat) : toQ (-n) D = -toQ n D := by
  unfold toQ
  rw [Rat.neg_mkRat]
theorem chk_neg {n : Int} {D : Nat} (h : chk n D) : chk (-n) D := by
  obtain ⟨h1, h2, h3⟩ := h
  exact ⟨h1, ⟨by omega, by omega⟩, by rw [Int.natAbs_neg]; exact h3⟩
theorem subOut_Q {n1 n2 : Int} {D1 D2 : Nat} (hx : chk n1 D1) (hy : chk n2 D2) : addOut n1 D1 (-n2) D2 = outQ (toQ n1 D1 - toQ n2 D2) := by
  rw [addOut_Q hx (chk_neg hy), toQ_neg, Rat.sub_eq_add_neg]
theorem toQ_inv {n : Int} {D : Nat} (h : chk n D) (h0 : n ≠ 0) : chk (n.sign * (D : Int)) n.natAbs ∧ toQ (n.sign * (D : Int)) n.natAbs = (toQ n D)⁻¹ := by
  have hc : chk (n.sign * (D : Int)) n.natAbs := by
    obtain ⟨h1, h2, h3⟩ := h
    rcases Int.lt_or_gt_of_ne h0 with hs | hs
    · rw [sign_neg' hs]
      exact ⟨⟨by omega, by omega⟩, ⟨by omega, by omega⟩, by rw [Int.natAbs_mul, Nat.gcd_comm]; simpa using h3⟩
    · rw [sign_pos' hs]
      exact ⟨⟨by omega, by omega⟩, ⟨by omega, by omega⟩, by rw [Int.natAbs_mul, Nat.gcd_comm]; simpa using h3⟩
  refine ⟨hc, ?_⟩
  have v := chk_valid h
  have v2 := chk_valid hc
  apply Rat.ext
  · rw [v2.num, Rat.num_inv, v.num, v.den]
  · rw [v2.den, Rat.den_inv, v.num, if_neg h0]
theorem divOut_Q {n1 n2 : Int} {D1 D2 : Nat} (hx : chk n1 D1) (hy : chk n2 D2) (h0 : n2 ≠ 0) : mulOut n1 D1 (n2.sign * (D2 : Int)) n2.natAbs = outQ (toQ n1 D1 / toQ n2 D2) := by
  obtain ⟨hc, hq⟩ := toQ_inv hy h0
  rw [mulOut_Q hx hc, hq, Rat.div_def]
theorem toQ_lt {n1 n2 : Int} {D1 D2 : Nat} (hx : chk n1 D1) (hy : chk n2 D2) : toQ n1 D1 < toQ n2 D2 ↔ n1 * (D2 : Int) < n2 * (D1 : Int) := by
  have vx := chk_valid hx
  have vy := chk_valid hy
  rw [Rat.lt_iff, vx.num, vx.den, vy.num, vy.den]
theorem toQ_eq {n1 n2 : Int} {D1 D2 : Nat} (hx : chk n1 D1) (hy : chk n2 D2) (h : toQ n1 D1 = toQ n2 D2) : n1 = n2 ∧ D1 = D2 := toQ_inj (chk_valid hx) (chk_valid hy) h
/-- The sign of a difference. -/
theorem cmp_neg {n1 n2 : Int} {D1 D2 : Nat} (hx : chk n1 D1) (hy : chk n2 D2) : (n1 * (D2 : Int) + -n2 * (D1 : Int)).sign = if toQ n1 D1 < toQ n2 D2 then -1 else if toQ n2 D2 < toQ n1 D1 then 1 else 0 := by
  have e : -n2 * (D1 : Int) = -(n2 * (D1 : Int)) := Int.neg_mul _ _
  rw [e]
  by_cases h1 : toQ n1 D1 < toQ n2 D2
  · rw [if_pos h1]
    have := (toQ_lt hx hy).1 h1
    exact sign_neg' (by omega)
  · rw [if_neg h1]
    have g1 := mt (toQ_lt hx hy).2 h1
    by_cases h2 : toQ n2 D2 < toQ n1 D1
    · rw [if_pos h2]
      have := (toQ_lt hy hx).1 h2
      exact sign_pos' (by omega)
    · rw [if_neg h2]
      have g2 := mt (toQ_lt hy hx).2 h2
      rw [show n1 * (D2 : Int) + -(n2 * (D1 : Int)) = 0 by omega]
      rfl
end Go.Proofs.Ytbiegbnncnjnmaa.Rat
