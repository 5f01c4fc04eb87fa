/- Plain facts on numbers of two words of 64 bits, in two's complement. -/
import Derived.WalkKit
set_option linter.unusedVariables false
set_option linter.unusedSimpArgs false
namespace Go.Proofs.Ytbiegbnncnjnmaa.Pro

/-- The low and the high word of a number. -/
def loW (z : Int) : Int := z % 18446744073709551616
def hiW (z : Int) : Int := z / 18446744073709551616 % 18446744073709551616
/-- A number of two words, as a value. -/
def W (z : Int) : Value := .agg #[.int .u64 (hiW z), .int .u64 (loW z)]
theorem lo0 (z : Int) : 0 ≤ loW z := by unfold loW; omega
theorem lo1 (z : Int) : loW z < 18446744073709551616 := by unfold loW; omega
theorem hi0 (z : Int) : 0 ≤ hiW z := by unfold hiW; omega
theorem hi1 (z : Int) : hiW z < 18446744073709551616 := by unfold hiW; omega
theorem lo_add (x y : Int) : (loW x + loW y) % 18446744073709551616 = loW (x + y) := by unfold loW; omega
theorem hi_add (x y : Int) : (hiW x + hiW y + (loW x + loW y) / 18446744073709551616) % 18446744073709551616 = hiW (x + y) := by unfold loW hiW; omega
theorem lo_sub (x y : Int) : (loW x - loW y) % 18446744073709551616 = loW (x - y) := by unfold loW; omega
/-- The borrow. -/
def bor (x y : Int) : Int := if x < y then 1 else 0
theorem bor0 (x y : Int) : 0 ≤ bor x y := by unfold bor; split <;> omega
theorem bor1 (x y : Int) : bor x y ≤ 1 := by unfold bor; split <;> omega
theorem hi_sub (x y : Int) : (hiW x - hiW y - bor (loW x) (loW y)) % 18446744073709551616 = hiW (x - y) := by unfold bor loW hiW; split <;> omega
theorem split_w (x : Int) : ∃ a, x = a * 18446744073709551616 + loW x ∧ hiW x = a % 18446744073709551616 := ⟨x / 18446744073709551616, by unfold loW; omega, rfl⟩
theorem lo_mul (x y : Int) : (loW x * loW y) % 18446744073709551616 = loW (x * y) := by unfold loW; rw [← Int.mul_emod]
theorem hi_mul (x y : Int) : (loW x * loW y / 18446744073709551616 + hiW x * loW y + loW x * hiW y) % 18446744073709551616 = hiW (x * y) := by
  obtain ⟨a, ha, ha'⟩ := split_w x
  obtain ⟨b, hb, hb'⟩ := split_w y
  have e : x * y = (a * b * 18446744073709551616 + a * loW y + loW x * b) * 18446744073709551616 + loW x * loW y := by
    conv => lhs; rw [ha, hb]
    simp only [Int.add_mul, Int.mul_add]
    rw [show a * 18446744073709551616 * (b * 18446744073709551616) = a * b * 18446744073709551616 * 18446744073709551616 by ac_rfl, show a * 18446744073709551616 * loW y = a * loW y * 18446744073709551616 by ac_rfl, show loW x * (b * 18446744073709551616) = loW x * b * 18446744073709551616 by ac_rfl]
    omega
  have e2 : x * y / 18446744073709551616 = a * b * 18446744073709551616 + a * loW y + loW x * b + loW x * loW y / 18446744073709551616 := by
    rw [e, Int.add_comm, Int.add_mul_ediv_right _ _ (by decide)]; omega
  show _ = x * y / 18446744073709551616 % 18446744073709551616
  rw [e2, ha', hb']
  have m1 : a % 18446744073709551616 * loW y % 18446744073709551616 = a * loW y % 18446744073709551616 := by rw [Int.mul_emod, Int.emod_emod_of_dvd _ (Int.dvd_refl _), ← Int.mul_emod]
  have m2 : loW x * (b % 18446744073709551616) % 18446744073709551616 = loW x * b % 18446744073709551616 := by rw [Int.mul_emod, Int.emod_emod_of_dvd _ (Int.dvd_refl _), ← Int.mul_emod]
  have m3 : a * b * 18446744073709551616 % 18446744073709551616 = 0 := Int.mul_emod_left _ _
  generalize a % 18446744073709551616 * loW y = p1 at *
  generalize loW x * (b % 18446744073709551616) = p2 at *
  generalize a * loW y = q1 at *
  generalize loW x * b = q2 at *
  generalize a * b = q3 at *
  generalize loW x * loW y / 18446744073709551616 = q4 at *
  omega
theorem hi_neg (z : Int) (h1 : -170141183460469231731687303715884105728 ≤ z) (h2 : z < 170141183460469231731687303715884105728) : (9223372036854775808 ≤ hiW z) ↔ z < 0 := by unfold hiW; omega
theorem hi_small (z : Int) (h1 : 0 ≤ z) (h2 : z < 170141183460469231731687303715884105728) : hiW z = 0 ↔ z < 18446744073709551616 := by unfold hiW; omega
theorem lo_small (z : Int) (h1 : 0 ≤ z) (h2 : z < 18446744073709551616) : loW z = z := by unfold loW; omega
theorem hi_zero (z : Int) (h1 : 0 ≤ z) (h2 : z < 18446744073709551616) : hiW z = 0 := by unfold hiW; omega
theorem W_small (z : Int) (h1 : 0 ≤ z) (h2 : z < 18446744073709551616) : W z = .agg #[.int .u64 0, .int .u64 z] := by unfold W; rw [lo_small z h1 h2, hi_zero z h1 h2]
theorem W_form (z : Int) : ∃ x y : Int, W z = .agg #[.int .u64 x, .int .u64 y] ∧ x = hiW z ∧ y = loW z := ⟨_, _, rfl, rfl, rfl⟩
theorem W_inj {x y : Int} (hx : 0 ≤ x) (hx' : x < 170141183460469231731687303715884105728) (hy : 0 ≤ y) (hy' : y < 170141183460469231731687303715884105728) (h1 : hiW x = hiW y) (h2 : loW x = loW y) : x = y := by unfold loW hiW at *; omega
end Go.Proofs.Ytbiegbnncnjnmaa.Pro
