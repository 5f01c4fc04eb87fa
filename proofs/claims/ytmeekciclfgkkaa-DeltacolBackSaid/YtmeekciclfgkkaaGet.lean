/- The contracts of get, Read and ReadSigned of the reference. -/
import Derived.Test.YtmeekciclfgkkaaLow
import Derived.Test.YtmeekciclfgkkaaMath
namespace Go.Proofs.Ytmeekciclfgkkaa
open Go.RowKit

/-- The rest of a list from place k on. -/
theorem drop_cons (s : ByteArray) (k : Nat) (h : k < s.size) : s.data.toList.drop k = s[k] :: s.data.toList.drop (k + 1) := by
  rw [List.drop_eq_getElem_cons (by simpa using h)]; rfl
/-- What is still to be read when k bytes have been. -/
def Still (s : ByteArray) (k acc : Nat) : Prop := rd 2305843009213693952 0 0 s.data.toList = rd 2305843009213693952 k acc (s.data.toList.drop k)

theorem pow_le56 (k : Nat) (hk : k ≤ 8) : 1 ≤ 2 ^ (7 * k) ∧ 2 ^ (7 * k) ≤ 72057594037927936 :=
  ⟨Nat.one_le_two_pow, Nat.le_trans (Nat.pow_le_pow_right (by omega) (show 7 * k ≤ 56 by omega)) (by decide)⟩

theorem acc_lt {k acc : Nat} (b : Nat) (hacc : acc < 2 ^ (7 * k)) : acc + b % 128 * 2 ^ (7 * k) < 2 ^ (7 * (k + 1)) := by
  rw [pow7]
  have h1 : b % 128 * 2 ^ (7 * k) ≤ 127 * 2 ^ (7 * k) := Nat.mul_le_mul_right _ (by omega)
  omega

/-- One group more does not overflow. -/
theorem acc_step {k acc : Nat} (b : Nat) (hk : k ≤ 8) (hacc : acc < 2 ^ (7 * k)) : wrap64 ((acc : Int) + wrap64 ((b : Int) % 128 * 2 ^ (7 * k))) = ((acc + b % 128 * 2 ^ (7 * k) : Nat) : Int) := by
  obtain ⟨h1, h2⟩ := pow_le56 k hk
  have h3 : b % 128 * 2 ^ (7 * k) ≤ 127 * 2 ^ (7 * k) := Nat.mul_le_mul_right _ (by omega)
  have e : ((b : Int) % 128 * 2 ^ (7 * k)) = ((b % 128 * 2 ^ (7 * k) : Nat) : Int) := by simp
  rw [e]
  generalize b % 128 * 2 ^ (7 * k) = p at *
  generalize 2 ^ (7 * k) = q at *
  have i1 : wrap64 (p : Int) = p := IntWalk.wrap64_in _ (by constructor <;> omega)
  rw [i1, IntWalk.wrap64_in _ (by constructor <;> omega)]
  omega

theorem rd_le (most : Nat) (l : List UInt8) : (rd most 0 0 l).1 ≤ most := by
  by_cases h : (rd most 0 0 l).2.2 = 0
  · obtain ⟨m, k, _, h2, _⟩ := rd_ok most l 0 0 h
    exact h2
  · rw [(rd_err most l 0 0 h).1]; omega

end Go.Proofs.Ytmeekciclfgkkaa
