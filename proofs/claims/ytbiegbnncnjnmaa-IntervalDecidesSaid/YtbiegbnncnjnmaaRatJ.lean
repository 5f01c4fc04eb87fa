/- The contracts of the reference of layer 3: over as a whole. -/
import Derived.Test.YtbiegbnncnjnmaaRatI
set_option linter.unusedVariables false
set_option linter.unusedSimpArgs false
namespace Go.Proofs.Ytbiegbnncnjnmaa.Rat
open Go.RowKit

theorem over_words (A n : Nat) (hn : 1 ≤ n) :
    A / 1152921504606846976 / n = A / n / 1152921504606846976 ∧
    (A / 1152921504606846976 % n * 1152921504606846976 + A % 1152921504606846976) / n = A / n % 1152921504606846976 ∧
    (A / 1152921504606846976 % n * 1152921504606846976 + A % 1152921504606846976) % n = A % n := by
  have hA : A = n * (A / 1152921504606846976 / n * 1152921504606846976) + (A / 1152921504606846976 % n * 1152921504606846976 + A % 1152921504606846976) := by
    have h1 := Nat.div_add_mod A 1152921504606846976
    have h2 := Nat.div_add_mod (A / 1152921504606846976) n
    generalize A / 1152921504606846976 / n = q at *
    generalize A / 1152921504606846976 % n = r at *
    have e : n * (q * 1152921504606846976) = n * q * 1152921504606846976 := by rw [Nat.mul_assoc]
    rw [e]
    omega
  have hlt : (A / 1152921504606846976 % n * 1152921504606846976 + A % 1152921504606846976) / n < 1152921504606846976 := by
    have h1 := Nat.mod_lt (A / 1152921504606846976) (show 0 < n by omega)
    have h2 := Nat.mod_lt A (show 0 < 1152921504606846976 by omega)
    rw [Nat.div_lt_iff_lt_mul (by omega)]
    calc A / 1152921504606846976 % n * 1152921504606846976 + A % 1152921504606846976 < (A / 1152921504606846976 % n + 1) * 1152921504606846976 := by omega
      _ ≤ n * 1152921504606846976 := Nat.mul_le_mul_right _ h1
      _ = 1152921504606846976 * n := Nat.mul_comm _ _
  have hd : A / n = A / 1152921504606846976 / n * 1152921504606846976 + (A / 1152921504606846976 % n * 1152921504606846976 + A % 1152921504606846976) / n := by
    have h : A / n = (n * (A / 1152921504606846976 / n * 1152921504606846976) + (A / 1152921504606846976 % n * 1152921504606846976 + A % 1152921504606846976)) / n := congrArg (fun x => x / n) hA
    rw [Nat.mul_add_div (by omega)] at h
    exact h
  have key : ∀ x y : Nat, x < 1152921504606846976 → (y * 1152921504606846976 + x) / 1152921504606846976 = y ∧ (y * 1152921504606846976 + x) % 1152921504606846976 = x := by
    intro x y h
    omega
  refine ⟨?_, ?_, ?_⟩
  · rw [hd]; exact (key _ _ hlt).1.symm
  · rw [hd]; exact (key _ _ hlt).2.symm
  · have h : A % n = (n * (A / 1152921504606846976 / n * 1152921504606846976) + (A / 1152921504606846976 % n * 1152921504606846976 + A % 1152921504606846976)) % n := congrArg (fun x => x % n) hA
    rw [Nat.mul_add_mod] at h
    exact h.symm

theorem over_any (z : Int) (n : Nat) (hz : far z) (hn : 1 ≤ n) (hn2 : n ≤ 1152921504606846976) (w : World) :
    Calls Try.prog 78 #[wid z, .int .i64 n] w fun e w' => e = .returned (.tuple #[.agg #[.int .i64 z.sign, .int .i64 (z.natAbs / n / 1152921504606846976 : Nat), .int .i64 (z.natAbs / n % 1152921504606846976 : Nat)], .int .i64 (z.natAbs % n : Nat)]) ∧ Below w.heap.size w w' := by
  have h := over_raw z.sign (z.natAbs / 1152921504606846976) (z.natAbs % 1152921504606846976) n hn hn2 (lo_lt z) (far_hi hz) w
  obtain ⟨e1, e2, e3⟩ := over_words z.natAbs n hn
  rw [e1, e2, e3] at h
  exact h
/-- .. where it divides. -/
theorem over_exact (z : Int) (n : Nat) (hz : far z) (hn : 1 ≤ n) (hn2 : n ≤ 1152921504606846976) (hd : (n : Int) ∣ z) (w : World) :
    Calls Try.prog 78 #[wid z, .int .i64 n] w fun e w' => e = .returned (.tuple #[wid (z / n), .int .i64 0]) ∧ Below w.heap.size w w' := by
  have h := over_any z n hz hn hn2 w
  obtain ⟨k, rfl⟩ := hd
  have hn0 : (n : Int) ≠ 0 := by omega
  rw [Int.mul_ediv_cancel_left _ hn0]
  rw [Int.natAbs_mul, Int.natAbs_natCast, Nat.mul_div_cancel_left _ (by omega), Nat.mul_mod_right] at h
  have hs : ((n : Int) * k).sign = k.sign := by
    rw [Int.sign_mul, Int.sign_eq_one_of_pos (by omega), Int.one_mul]
  rw [hs] at h
  exact h
theorem far_add {a b c d : Int} (ha : a.natAbs ≤ 1152921504606846976) (hb : b.natAbs ≤ 1152921504606846976) (hc : c.natAbs ≤ 1152921504606846976) (hd : d.natAbs ≤ 1152921504606846976) : far (a * b + c * d) := by
  have h1 := Nat.mul_le_mul ha hb
  have h2 := Nat.mul_le_mul hc hd
  rw [← Int.natAbs_mul] at h1 h2
  unfold far
  have h3 := Int.natAbs_add_le (a * b) (c * d)
  have e : (1152921504606846976 * 1152921504606846976 : Nat) + 1152921504606846976 * 1152921504606846976 ≤ 2658455991569831745807614120560689152 := by decide
  omega
theorem far_div {z : Int} {n : Nat} (hz : far z) (hn : 1 ≤ n) (hd : (n : Int) ∣ z) : far (z / n) := by
  unfold far at *
  obtain ⟨k, rfl⟩ := hd
  rw [Int.mul_ediv_cancel_left _ (by omega)]
  rw [Int.natAbs_mul, Int.natAbs_natCast] at hz
  exact Nat.le_trans (Nat.le_mul_of_pos_left _ (by omega)) hz
end Go.Proofs.Ytbiegbnncnjnmaa.Rat
