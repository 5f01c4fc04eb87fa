/- Plain facts on the encodings: reading what was written, and writing what was read. -/
import Derived.Lib.Varint
namespace Go.Proofs.Ytpinmmmbmhfmiaa

/-- What is read at the head of a list, i bytes having been read, whose groups make acc: the number, the count of bytes, the error. -/
def rd (most : Nat) : Nat → Nat → List UInt8 → Nat × Nat × Nat
  | _, _, [] => (0, 0, 11)
  | i, acc, b :: r =>
    if 128 ≤ b.toNat then (if i = 8 then (0, 0, 12) else rd most (i + 1) (acc + b.toNat % 128 * 2 ^ (7 * i)) r)
    else if (0 < i ∧ b.toNat = 0) ∨ most < acc + b.toNat * 2 ^ (7 * i) then (0, 0, 12)
    else (acc + b.toNat * 2 ^ (7 * i), i + 1, 0)

theorem rd_nil (most i acc : Nat) : rd most i acc [] = (0, 0, 11) := by rw [rd]
theorem rd_more {most i acc : Nat} {b : UInt8} {r : List UInt8} (hb : 128 ≤ b.toNat) (hi : i ≠ 8) : rd most i acc (b :: r) = rd most (i + 1) (acc + b.toNat % 128 * 2 ^ (7 * i)) r := by
  rw [rd, if_pos hb, if_neg hi]
theorem rd_long {most i acc : Nat} {b : UInt8} {r : List UInt8} (hb : 128 ≤ b.toNat) (hi : i = 8) : rd most i acc (b :: r) = (0, 0, 12) := by
  rw [rd, if_pos hb, if_pos hi]
theorem rd_bad {most i acc : Nat} {b : UInt8} {r : List UInt8} (hb : b.toNat < 128) (h : (0 < i ∧ b.toNat = 0) ∨ most < acc + b.toNat * 2 ^ (7 * i)) : rd most i acc (b :: r) = (0, 0, 12) := by
  rw [rd, if_neg (by omega), if_pos h]
theorem rd_last {most i acc : Nat} {b : UInt8} {r : List UInt8} (hb : b.toNat < 128) (h : ¬((0 < i ∧ b.toNat = 0) ∨ most < acc + b.toNat * 2 ^ (7 * i))) : rd most i acc (b :: r) = (acc + b.toNat * 2 ^ (7 * i), i + 1, 0) := by
  rw [rd, if_neg (by omega), if_neg h]

/-- With a smaller bound: the same, but for the numbers beyond it. -/
theorem rd_less (m M : Nat) (hm : m ≤ M) : ∀ (l : List UInt8) (i acc : Nat), rd m i acc l = if (rd M i acc l).2.2 = 0 ∧ m < (rd M i acc l).1 then (0, 0, 12) else rd M i acc l
  | [], i, acc => by simp [rd]
  | b :: r, i, acc => by
    by_cases hb : 128 ≤ b.toNat
    · by_cases hi : i = 8
      · rw [rd_long hb hi, rd_long hb hi]; simp
      · rw [rd_more hb hi, rd_more hb hi]; exact rd_less m M hm r _ _
    · by_cases h : (0 < i ∧ b.toNat = 0) ∨ M < acc + b.toNat * 2 ^ (7 * i)
      · rw [rd_bad (most := M) (by omega) h, rd_bad (by omega) (by omega)]; simp
      · rw [rd_last (most := M) (by omega) h]
        by_cases h2 : m < acc + b.toNat * 2 ^ (7 * i)
        · rw [rd_bad (by omega) (by omega)]; simp [h2]
        · rw [rd_last (by omega) (by omega)]; simp [h2]

/-- An error comes with zeros. -/
theorem rd_err (most : Nat) : ∀ (l : List UInt8) (i acc : Nat), (rd most i acc l).2.2 ≠ 0 → (rd most i acc l).1 = 0 ∧ (rd most i acc l).2.1 = 0
  | [], i, acc, _ => by simp [rd]
  | b :: r, i, acc, he => by
    by_cases hb : 128 ≤ b.toNat
    · by_cases hi : i = 8
      · rw [rd_long hb hi]; simp
      · rw [rd_more hb hi] at he ⊢; exact rd_err most r _ _ he
    · by_cases h : (0 < i ∧ b.toNat = 0) ∨ most < acc + b.toNat * 2 ^ (7 * i)
      · rw [rd_bad (by omega) h]; simp
      · rw [rd_last (by omega) h] at he; simp at he

theorem rd_kinds (most : Nat) : ∀ (l : List UInt8) (i acc : Nat), (rd most i acc l).2.2 = 0 ∨ (rd most i acc l).2.2 = 11 ∨ (rd most i acc l).2.2 = 12
  | [], i, acc => by simp [rd]
  | b :: r, i, acc => by
    by_cases hb : 128 ≤ b.toNat
    · by_cases hi : i = 8
      · rw [rd_long hb hi]; simp
      · rw [rd_more hb hi]; exact rd_kinds most r _ _
    · by_cases h : (0 < i ∧ b.toNat = 0) ∨ most < acc + b.toNat * 2 ^ (7 * i)
      · rw [rd_bad (by omega) h]; simp
      · rw [rd_last (by omega) h]; simp

theorem pow7 (i : Nat) : 2 ^ (7 * (i + 1)) = 128 * 2 ^ (7 * i) := by
  rw [Nat.mul_add, Nat.pow_add, Nat.mul_comm]

/-- What was read is what is written. -/
theorem rd_ok (most : Nat) : ∀ (l : List UInt8) (i acc : Nat), (rd most i acc l).2.2 = 0 →
    ∃ m k, (rd most i acc l).1 = acc + m * 2 ^ (7 * i) ∧ (rd most i acc l).1 ≤ most ∧ (rd most i acc l).2.1 = i + k ∧ 1 ≤ k ∧ k ≤ l.length ∧ l.take k = Lib.uvarint m ∧ (0 < i → 0 < m)
  | [], i, acc, he => by simp [rd] at he
  | b :: r, i, acc, he => by
    by_cases hb : 128 ≤ b.toNat
    · by_cases hi : i = 8
      · rw [rd_long hb hi] at he; simp at he
      · rw [rd_more hb hi] at he ⊢
        obtain ⟨m, k, h1, h2, h3, h4, h5, h6, h7⟩ := rd_ok most r _ _ he
        have hm := h7 (by omega)
        have hlt := b.toNat_lt
        refine ⟨b.toNat % 128 + 128 * m, k + 1, ?_, h2, by omega, by omega, by simp; omega, ?_, by omega⟩
        · rw [h1, pow7]; simp only [Nat.add_mul]
          have : m * (128 * 2 ^ (7 * i)) = 128 * m * 2 ^ (7 * i) := by rw [← Nat.mul_assoc, Nat.mul_comm m 128]
          omega
        · have hd : (b.toNat % 128 + 128 * m) / 128 = m := by omega
          have hr : (b.toNat % 128 + 128 * m) % 128 + 128 = b.toNat := by omega
          rw [Lib.uvarint_big (by omega), hd, hr, List.take_succ_cons, h6]
          simp
    · by_cases h : (0 < i ∧ b.toNat = 0) ∨ most < acc + b.toNat * 2 ^ (7 * i)
      · rw [rd_bad (by omega) h] at he; simp at he
      · rw [rd_last (by omega) h]
        refine ⟨b.toNat, 1, rfl, by simp only; omega, rfl, by omega, by simp, ?_, by omega⟩
        rw [Lib.uvarint_small (by omega)]
        simp

/-- What was written is read, whatever follows. -/
theorem rd_back (most : Nat) : ∀ (k m i acc : Nat) (rest : List UInt8), m < 128 ^ (k + 1) → i + k ≤ 8 → (0 < i → 0 < m) → acc + m * 2 ^ (7 * i) ≤ most →
    rd most i acc (Lib.uvarint m ++ rest) = (acc + m * 2 ^ (7 * i), i + (Lib.uvarint m).length, 0)
  | k, m, i, acc, rest, hm, hik, hpos, hmost => by
    by_cases h : m < 128
    · rw [Lib.uvarint_small h, List.singleton_append]
      have hb : m.toUInt8.toNat = m := by simp [Nat.toUInt8, UInt8.toNat_ofNat']; omega
      rw [rd_last (by omega) (by rw [hb]; omega), hb]
      rfl
    · cases k with
      | zero => omega
      | succ k =>
        rw [Lib.uvarint_big (by omega), List.cons_append]
        have hb : (m % 128 + 128).toUInt8.toNat = m % 128 + 128 := by simp [Nat.toUInt8, UInt8.toNat_ofNat']; omega
        have e : acc + (m % 128 + 128) % 128 * 2 ^ (7 * i) + m / 128 * 2 ^ (7 * (i + 1)) = acc + m * 2 ^ (7 * i) := by
          rw [pow7, show (m % 128 + 128) % 128 = m % 128 by omega]
          have e1 : m / 128 * (128 * 2 ^ (7 * i)) = 128 * (m / 128) * 2 ^ (7 * i) := by rw [← Nat.mul_assoc, Nat.mul_comm (m / 128) 128]
          rw [e1, Nat.add_assoc, ← Nat.add_mul, show m % 128 + 128 * (m / 128) = m by omega]
        rw [rd_more (by omega) (by omega), hb, rd_back most k (m / 128) (i + 1) _ rest (by rw [Nat.pow_succ] at hm; omega) (by omega) (by omega) (by rw [e]; exact hmost), e]
        simp; omega

/-- What is cut off is too short. -/
theorem rd_cut (most : Nat) : ∀ (k m i acc j : Nat), m < 128 ^ (k + 1) → i + k ≤ 8 → j < (Lib.uvarint m).length → rd most i acc ((Lib.uvarint m).take j) = (0, 0, 11)
  | k, m, i, acc, j, hm, hik, hj => by
    cases j with
    | zero => rw [List.take_zero, rd_nil]
    | succ j =>
      by_cases h : m < 128
      · rw [Lib.uvarint_small h] at hj; simp at hj
      · cases k with
        | zero => omega
        | succ k =>
          rw [Lib.uvarint_big (by omega)] at hj ⊢
          have hb : (m % 128 + 128).toUInt8.toNat = m % 128 + 128 := by simp [Nat.toUInt8, UInt8.toNat_ofNat']; omega
          rw [List.take_succ_cons, rd_more (by omega) (by omega)]
          exact rd_cut most k (m / 128) (i + 1) _ j (by rw [Nat.pow_succ] at hm; omega) (by omega) (by simpa using hj)
end Go.Proofs.Ytpinmmmbmhfmiaa
