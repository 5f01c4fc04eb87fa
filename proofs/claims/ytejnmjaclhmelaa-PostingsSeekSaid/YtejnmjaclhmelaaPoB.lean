/- Layer 8: the encoding of a list, and how it is read. -/
import Derived.Test.YtejnmjaclhmelaaPoA
import Derived.Test.YtejnmjaclhmelaaMath
set_option linter.unusedVariables false
set_option linter.unusedSimpArgs false
namespace Go.Proofs.Ytejnmjaclhmelaa.Po
/-- The greatest number. -/
def topN : Nat := 1152921504606846976
theorem rd_num {m : Nat} (rest : List UInt8) (h : m ≤ topN) : rd topN 0 0 (Lib.uvarint m ++ rest) = (m, (Lib.uvarint m).length, 0) := by
  have := rd_back topN 8 m 0 0 rest (Nat.lt_of_le_of_lt h (by decide)) (by omega) (by omega) (by simpa using h)
  simpa using this
/-- The numbers of a list, by their gaps; b: the least that may come. -/
def gapB : Int → List Int → List UInt8
  | _, [] => []
  | b, x :: l => Lib.uvarint (x - b).toNat ++ gapB (x + 1) l
def encP (l : List Int) : List UInt8 := Lib.uvarint l.length ++ gapB 0 l
theorem gapB_len : ∀ (b : Int) (l : List Int), l.length ≤ (gapB b l).length
  | _, [] => Nat.zero_le _
  | b, x :: l => by
    have h1 := Lib.uvarint_pos (x - b).toNat
    have h2 := gapB_len (x + 1) l
    rw [gapB, List.length_append, List.length_cons]
    omega
theorem encP_len (l : List Int) : l.length + 1 ≤ (encP l).length := by
  have h1 := Lib.uvarint_pos l.length
  have h2 := gapB_len 0 l
  unfold encP
  rw [List.length_append]
  omega
/-- n numbers, the least of which may be b; what is left. -/
def decG : Nat → Int → List UInt8 → Option (List Int × List UInt8)
  | 0, _, s => some ([], s)
  | n + 1, b, s =>
    if (rd topN 0 0 s).2.2 ≠ 0 then none else
    if top < b + (rd topN 0 0 s).1 then none else
    (decG n (b + (rd topN 0 0 s).1 + 1) (s.drop (rd topN 0 0 s).2.1)).map fun p => ((b + (rd topN 0 0 s).1) :: p.1, p.2)
theorem decG_bad {n : Nat} {b : Int} {s : List UInt8} (h : (rd topN 0 0 s).2.2 ≠ 0) : decG (n + 1) b s = none := by rw [decG, if_pos h]
theorem decG_far {n : Nat} {b : Int} {s : List UInt8} (h : (rd topN 0 0 s).2.2 = 0) (h2 : top < b + (rd topN 0 0 s).1) : decG (n + 1) b s = none := by rw [decG, if_neg (by simp [h]), if_pos h2]
theorem decG_go {n : Nat} {b : Int} {s : List UInt8} (h : (rd topN 0 0 s).2.2 = 0) (h2 : ¬ top < b + (rd topN 0 0 s).1) : decG (n + 1) b s = (decG n (b + (rd topN 0 0 s).1 + 1) (s.drop (rd topN 0 0 s).2.1)).map fun p => ((b + (rd topN 0 0 s).1) :: p.1, p.2) := by
  rw [decG, if_neg (by simp [h]), if_neg h2]
def decP (s : List UInt8) : Option (List Int) :=
  if (rd topN 0 0 s).2.2 ≠ 0 then none else
  match decG (rd topN 0 0 s).1 0 (s.drop (rd topN 0 0 s).2.1) with
  | some (l, []) => some l
  | _ => none
/-- All from b on, ascending. -/
def From (b : Int) (l : List Int) : Prop := (∀ x ∈ l, b ≤ x ∧ x ≤ top) ∧ asc l
theorem From.cons {b x : Int} {l : List Int} : From b (x :: l) ↔ (b ≤ x ∧ x ≤ top) ∧ From (x + 1) l := by
  unfold From asc
  rw [List.pairwise_cons]
  constructor
  · rintro ⟨h1, h2, h3⟩
    exact ⟨h1 x (List.mem_cons_self ..), fun y hy => ⟨by have := h2 y hy; omega, (h1 y (List.mem_cons_of_mem _ hy)).2⟩, h3⟩
  · rintro ⟨h1, h2, h3⟩
    refine ⟨fun y hy => ?_, fun y hy => by have := (h2 y hy).1; omega, h3⟩
    rcases List.mem_cons.1 hy with rfl | hy
    · exact h1
    · have := h2 y hy
      exact ⟨by omega, this.2⟩
theorem from_val {l : List Int} : From 0 l ↔ Val l := Iff.rfl
theorem topN_eq : (topN : Int) = top := rfl
theorem decG_gap : ∀ {l : List Int} {b : Int} (r : List UInt8), 0 ≤ b → From b l → decG l.length b (gapB b l ++ r) = some (l, r)
  | [], b, r, _, _ => rfl
  | x :: l, b, r, hb, h => by
    obtain ⟨h1, h2⟩ := From.cons.1 h
    have hx : (x - b).toNat ≤ topN := by have := topN_eq; omega
    have h3 := rd_num (gapB (x + 1) l ++ r) hx
    have ex : b + ((x - b).toNat : Int) = x := by omega
    rw [gapB, List.append_assoc, List.length_cons, decG_go (by rw [h3]) (by rw [h3]; show ¬ top < b + ((x - b).toNat : Int); omega), h3]
    show Option.map _ (decG l.length (b + ((x - b).toNat : Int) + 1) ((Lib.uvarint (x - b).toNat ++ (gapB (x + 1) l ++ r)).drop (Lib.uvarint (x - b).toNat).length)) = _
    rw [List.drop_left, ex, decG_gap r (by omega) h2]
    rfl
/-- What was encoded is read. -/
theorem decP_enc {l : List Int} (h : Val l) (hl : l.length ≤ topN) : decP (encP l) = some l := by
  have h3 := rd_num (gapB 0 l) hl
  unfold decP encP
  rw [h3, if_neg (by simp)]
  show (match decG l.length 0 ((Lib.uvarint l.length ++ gapB 0 l).drop (Lib.uvarint l.length).length) with | some (l, []) => some l | _ => none) = _
  have h4 := decG_gap [] (Int.le_refl 0) (from_val.2 h)
  rw [List.append_nil] at h4
  rw [List.drop_left, h4]
theorem rd_head {s : List UInt8} (h : (rd topN 0 0 s).2.2 = 0) : (rd topN 0 0 s).1 ≤ topN ∧ s = Lib.uvarint (rd topN 0 0 s).1 ++ s.drop (rd topN 0 0 s).2.1 := by
  obtain ⟨m, k, h1, h2, h3, h4, h5, h6, _⟩ := rd_ok topN s 0 0 h
  refine ⟨h2, ?_⟩
  have e1 : (rd topN 0 0 s).1 = m := by simpa using h1
  have e2 : (rd topN 0 0 s).2.1 = k := by simpa using h3
  rw [e1, e2, ← h6, List.take_append_drop]
theorem decG_inv : ∀ {n : Nat} {b : Int} {s r : List UInt8} {l : List Int}, 0 ≤ b → decG n b s = some (l, r) → l.length = n ∧ From b l ∧ s = gapB b l ++ r
  | 0, b, s, r, l, hb, h => by
    cases h
    exact ⟨rfl, ⟨fun x hx => (by cases hx), List.Pairwise.nil⟩, rfl⟩
  | n + 1, b, s, r, l, hb, h => by
    by_cases h0 : (rd topN 0 0 s).2.2 = 0
    · by_cases h1 : top < b + (rd topN 0 0 s).1
      · rw [decG_far h0 h1] at h; cases h
      · rw [decG_go h0 h1] at h
        obtain ⟨h2, h3⟩ := rd_head h0
        cases hd : decG n (b + (rd topN 0 0 s).1 + 1) (s.drop (rd topN 0 0 s).2.1) with
        | none => rw [hd] at h; cases h
        | some p =>
          obtain ⟨l', r'⟩ := p
          rw [hd] at h
          injection h with h
          injection h with e1 e2
          obtain ⟨k1, k2, k3⟩ := decG_inv (by omega) hd
          subst e2
          rw [← e1]
          refine ⟨by rw [List.length_cons, k1], From.cons.2 ⟨⟨by omega, by omega⟩, k2⟩, ?_⟩
          rw [gapB, show (b + ((rd topN 0 0 s).1 : Int) - b).toNat = (rd topN 0 0 s).1 by omega, List.append_assoc, ← k3]
          exact h3
    · rw [decG_bad h0] at h; cases h
/-- What can be read is an encoding. -/
theorem decP_inv {s : List UInt8} {l : List Int} (h : decP s = some l) : Val l ∧ encP l = s ∧ l.length ≤ topN := by
  unfold decP at h
  by_cases h0 : (rd topN 0 0 s).2.2 = 0
  · rw [if_neg (by simp [h0])] at h
    obtain ⟨h2, h3⟩ := rd_head h0
    cases hd : decG (rd topN 0 0 s).1 0 (s.drop (rd topN 0 0 s).2.1) with
    | none => rw [hd] at h; cases h
    | some p =>
      obtain ⟨l', r'⟩ := p
      rw [hd] at h
      cases r' with
      | cons c r => cases h
      | nil =>
        injection h with h
        subst h
        obtain ⟨k1, k2, k3⟩ := decG_inv (Int.le_refl 0) hd
        refine ⟨from_val.1 k2, ?_, by omega⟩
        rw [List.append_nil] at k3
        unfold encP
        rw [k1, ← k3]
        exact h3.symm
  · rw [if_pos h0] at h; cases h
/-- What Encode and Decode hand back. -/
def encO (l : List Int) : List UInt8 × Int := if chk l = 0 then (encP l, 0) else ([], 1)
def decO (s : List UInt8) : List Int × Int := match decP s with
  | some l => (l, 0)
  | none => ([], 12)
theorem dec_back {l : List Int} (h : chk l = 0) (hl : l.length ≤ topN) : decO (encP l) = (l, 0) := by
  unfold decO
  rw [decP_enc (chk_zero.1 h) hl]
theorem dec_text {s : List UInt8} {l : List Int} (h : decO s = (l, 0)) : chk l = 0 ∧ encP l = s := by
  unfold decO at h
  cases hd : decP s with
  | none => rw [hd] at h; injection h with _ h; cases h
  | some m =>
    rw [hd] at h
    injection h with h _
    subst h
    obtain ⟨h1, h2, _⟩ := decP_inv hd
    exact ⟨chk_zero.2 h1, h2⟩
/-! The loops of the reference, step by step. -/
theorem gapB_snoc : ∀ (l : List Int) (b x : Int), gapB b (l ++ [x]) = gapB b l ++ Lib.uvarint (x - (match l.getLast? with | none => b | some y => y + 1)).toNat
  | [], b, x => by simp [gapB]
  | [y], b, x => by simp [gapB]
  | y :: z :: l, b, x => by
    have ih := gapB_snoc (z :: l) (y + 1) x
    have e : (y :: z :: l).getLast? = (z :: l).getLast? := List.getLast?_cons_cons
    obtain ⟨q, hq⟩ : ∃ q, (z :: l).getLast? = some q := ⟨_, List.getLast?_eq_some_getLast (by simp)⟩
    rw [hq] at ih
    rw [e, hq]
    show Lib.uvarint (y - b).toNat ++ gapB (y + 1) (z :: l ++ [x]) = (Lib.uvarint (y - b).toNat ++ gapB (y + 1) (z :: l)) ++ _
    rw [ih, List.append_assoc]
end Go.Proofs.Ytejnmjaclhmelaa.Po
