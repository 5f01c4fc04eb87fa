/- Plain facts on numbers of two words of 60 bits, with a sign. -/
import Derived.Test.YtbiegbnncnjnmaaRatMath
import Derived.WalkKit
set_option linter.unusedVariables false
set_option linter.unusedSimpArgs false
namespace Go.Proofs.Ytbiegbnncnjnmaa.Rat

theorem sign_pos' {z : Int} (h : 0 < z) : z.sign = 1 := Int.sign_eq_one_of_pos h
theorem sign_neg' {z : Int} (h : z < 0) : z.sign = -1 := Int.sign_eq_neg_one_of_neg h

/-- The words of a product of numbers below 2^60, by halves of 30 bits. -/
theorem prod_words (X Y : Nat) :
    X / 1073741824 * (Y / 1073741824) + (X / 1073741824 * (Y % 1073741824) + X % 1073741824 * (Y / 1073741824)) / 1073741824 + (X % 1073741824 * (Y % 1073741824) + (X / 1073741824 * (Y % 1073741824) + X % 1073741824 * (Y / 1073741824)) % 1073741824 * 1073741824) / 1152921504606846976 = X * Y / 1152921504606846976 ∧
    (X % 1073741824 * (Y % 1073741824) + (X / 1073741824 * (Y % 1073741824) + X % 1073741824 * (Y / 1073741824)) % 1073741824 * 1073741824) % 1152921504606846976 = X * Y % 1152921504606846976 :=
  halves 1073741824 X Y (by omega)

/-- A remainder while a number is divided bit by bit from the highest on. -/
theorem div_step (A n i : Nat) (hn : 0 < n) : A / 2 ^ i % n = (2 * (A / 2 ^ (i + 1) % n) + A / 2 ^ i % 2) % n := by
  have h : A / 2 ^ (i + 1) = A / 2 ^ i / 2 := by rw [Nat.pow_succ, Nat.div_div_eq_div_mul]
  rw [h]
  generalize A / 2 ^ i = B
  have h2 : B = 2 * (B / 2) + B % 2 := by omega
  conv => lhs; rw [h2]
  rw [Nat.add_mod, Nat.mul_mod, Nat.add_mod (2 * (B / 2 % n)), Nat.mul_mod 2 (B / 2 % n), Nat.mod_mod]
theorem div_step_q (A n i : Nat) (hn : 0 < n) : A / 2 ^ i / n = 2 * (A / 2 ^ (i + 1) / n) + (2 * (A / 2 ^ (i + 1) % n) + A / 2 ^ i % 2) / n := by
  have h : A / 2 ^ (i + 1) = A / 2 ^ i / 2 := by rw [Nat.pow_succ, Nat.div_div_eq_div_mul]
  rw [h]
  generalize A / 2 ^ i = B
  have h2 : B = n * (2 * (B / 2 / n)) + (2 * (B / 2 % n) + B % 2) := by
    have h3 := Nat.div_add_mod (B / 2) n
    have h4 : B = 2 * (B / 2) + B % 2 := by omega
    have h5 : n * (2 * (B / 2 / n)) = 2 * (n * (B / 2 / n)) := by rw [← Nat.mul_assoc, Nat.mul_comm n 2, Nat.mul_assoc]
    omega
  conv => lhs; rw [h2]
  rw [Nat.mul_add_div hn]

theorem words_cast (p q X Y : Nat) :
    (X : Int) / p * ((Y : Int) / p) + ((X : Int) / p * ((Y : Int) % p) + (X : Int) % p * ((Y : Int) / p)) / p + ((X : Int) % p * ((Y : Int) % p) + ((X : Int) / p * ((Y : Int) % p) + (X : Int) % p * ((Y : Int) / p)) % p * p) / q =
      ((X / p * (Y / p) + (X / p * (Y % p) + X % p * (Y / p)) / p + (X % p * (Y % p) + (X / p * (Y % p) + X % p * (Y / p)) % p * p) / q : Nat) : Int) ∧
    ((X : Int) % p * ((Y : Int) % p) + ((X : Int) / p * ((Y : Int) % p) + (X : Int) % p * ((Y : Int) / p)) % p * p) % q =
      (((X % p * (Y % p) + (X / p * (Y % p) + X % p * (Y / p)) % p * p) % q : Nat) : Int) := by
  constructor <;> push_cast <;> rfl
/-- The same, as the walk spells it. -/
theorem prod_int (X Y : Nat) :
    (X : Int) / 1073741824 * ((Y : Int) / 1073741824) + ((X : Int) / 1073741824 * ((Y : Int) % 1073741824) + (X : Int) % 1073741824 * ((Y : Int) / 1073741824)) / 1073741824 + ((X : Int) % 1073741824 * ((Y : Int) % 1073741824) + ((X : Int) / 1073741824 * ((Y : Int) % 1073741824) + (X : Int) % 1073741824 * ((Y : Int) / 1073741824)) % 1073741824 * 1073741824) / 1152921504606846976 = ((X * Y / 1152921504606846976 : Nat) : Int) ∧
    ((X : Int) % 1073741824 * ((Y : Int) % 1073741824) + ((X : Int) / 1073741824 * ((Y : Int) % 1073741824) + (X : Int) % 1073741824 * ((Y : Int) / 1073741824)) % 1073741824 * 1073741824) % 1152921504606846976 = ((X * Y % 1152921504606846976 : Nat) : Int) := by
  obtain ⟨h1, h2⟩ := prod_words X Y
  rw [← h1, ← h2]
  exact words_cast 1073741824 1152921504606846976 X Y
theorem mul_bound {a b m n : Nat} (ha : a ≤ m) (hb : b ≤ n) : (0 : Int) ≤ (a : Int) * (b : Int) ∧ (a : Int) * (b : Int) ≤ ((m * n : Nat) : Int) := by
  have h := Nat.mul_le_mul ha hb
  have e : (a : Int) * (b : Int) = ((a * b : Nat) : Int) := by simp
  rw [e]
  omega
theorem prod_bounds (X Y : Nat) (hX : X ≤ 1152921504606846976) (hY : Y ≤ 1152921504606846976) :
    ((0 : Int) ≤ (X : Int) / 1073741824 * ((Y : Int) / 1073741824) ∧ (X : Int) / 1073741824 * ((Y : Int) / 1073741824) ≤ 1152921504606846976) ∧
    ((0 : Int) ≤ (X : Int) / 1073741824 * ((Y : Int) % 1073741824) ∧ (X : Int) / 1073741824 * ((Y : Int) % 1073741824) ≤ 1152921504606846976) ∧
    ((0 : Int) ≤ (X : Int) % 1073741824 * ((Y : Int) / 1073741824) ∧ (X : Int) % 1073741824 * ((Y : Int) / 1073741824) ≤ 1152921504606846976) ∧
    ((0 : Int) ≤ (X : Int) % 1073741824 * ((Y : Int) % 1073741824) ∧ (X : Int) % 1073741824 * ((Y : Int) % 1073741824) ≤ 1152921504606846976) := by
  have d1 : (X : Int) / 1073741824 = ((X / 1073741824 : Nat) : Int) := by simp
  have d2 : (Y : Int) / 1073741824 = ((Y / 1073741824 : Nat) : Int) := by simp
  have m1 : (X : Int) % 1073741824 = ((X % 1073741824 : Nat) : Int) := by simp
  have m2 : (Y : Int) % 1073741824 = ((Y % 1073741824 : Nat) : Int) := by simp
  rw [d1, d2, m1, m2]
  have b1 : X / 1073741824 ≤ 1073741824 := by omega
  have b2 : Y / 1073741824 ≤ 1073741824 := by omega
  have b3 : X % 1073741824 ≤ 1073741824 := by omega
  have b4 : Y % 1073741824 ≤ 1073741824 := by omega
  exact ⟨mul_bound b1 b2, mul_bound b1 b4, mul_bound b3 b2, mul_bound b3 b4⟩

/-- A number of two words of 60 bits, with its sign, as a value. -/
def wid (z : Int) : Value := .agg #[.int .i64 z.sign, .int .i64 ((z.natAbs / 1152921504606846976 : Nat) : Int), .int .i64 ((z.natAbs % 1152921504606846976 : Nat) : Int)]
end Go.Proofs.Ytbiegbnncnjnmaa.Rat
