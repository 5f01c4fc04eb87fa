/- Plain facts on encoded lists of numbers. -/
import Derived.Test.YtpinmmmbmhfmiaaLow
import Derived.Test.YtpinmmmbmhfmiaaMath
namespace Go.Proofs.Ytpinmmmbmhfmiaa

/-- A number that can be encoded with its sign. -/
def inR (n : Int) : Prop := -1152921504606846976 ≤ n ∧ n ≤ 1152921504606846976
instance (n : Int) : Decidable (inR n) := by unfold inR; infer_instance

theorem fold_inR {n : Int} (h : inR n) : fold n ≤ 2305843009213693952 := fold_le h.1 h.2
theorem unfold_fold (n : Int) : unfold (fold n) = n := by
  by_cases h : n < 0
  · have := fold_neg h
    unfold unfold; rw [if_pos (by omega)]; omega
  · have := fold_pos (n := n) (by omega)
    unfold unfold; rw [if_neg (by omega)]; omega
theorem unfold_inR {m : Nat} (h : m ≤ 2305843009213693952) : inR (unfold m) := by
  unfold unfold inR
  by_cases h2 : m % 2 = 1
  · rw [if_pos h2]; omega
  · rw [if_neg h2]; omega
theorem fold_unfold (m : Nat) : fold (unfold m) = m := by
  unfold unfold
  by_cases h2 : m % 2 = 1
  · rw [if_pos h2]
    have := fold_neg (n := -((m / 2 : Nat) : Int) - 1) (by omega)
    omega
  · rw [if_neg h2]
    have := fold_pos (n := ((m / 2 : Nat) : Int)) (by omega)
    omega

theorem rd_uv {most m : Nat} (rest : List UInt8) (h : m ≤ most) (h63 : m < 9223372036854775808) : rd most 0 0 (Lib.uvarint m ++ rest) = (m, (Lib.uvarint m).length, 0) := by
  have := rd_back most 8 m 0 0 rest (Nat.lt_of_lt_of_le h63 (by decide)) (by omega) (by omega) (by simpa using h)
  simpa using this
theorem rd_uv_cut {most m j : Nat} (h63 : m < 9223372036854775808) (hj : j < (Lib.uvarint m).length) : rd most 0 0 ((Lib.uvarint m).take j) = (0, 0, 11) :=
  rd_cut most 8 m 0 0 j (Nat.lt_of_lt_of_le h63 (by decide)) (by omega) hj
theorem uv_len9 {m : Nat} (h63 : m < 9223372036854775808) : (Lib.uvarint m).length ≤ 9 := Lib.uvarint_length 8 m (Nat.lt_of_lt_of_le h63 (by decide))

/-- The numbers of a list, one after the other. -/
def flat : List Int → List UInt8
  | [] => []
  | z :: r => Lib.uvarint (fold z) ++ flat r
theorem flat_snoc (l : List Int) (z : Int) : flat (l ++ [z]) = flat l ++ Lib.uvarint (fold z) := by
  induction l with
  | nil => simp [flat]
  | cons a l ih => simp [flat, ih]
def enc (zs : List Int) : List UInt8 := Lib.uvarint zs.length ++ flat zs

theorem flat_len (zs : List Int) (h : ∀ z ∈ zs, inR z) : (flat zs).length ≤ 9 * zs.length := by
  induction zs with
  | nil => simp [flat]
  | cons z r ih =>
    have h1 := ih (fun y hy => h y (List.mem_cons_of_mem _ hy))
    have h2 := uv_len9 (m := fold z) (by have := fold_inR (h z (by simp)); omega)
    simp [flat]; omega

/-- n numbers are read from l, behind acc. -/
def decN : Nat → List UInt8 → List Int → List Int × Nat
  | 0, l, acc => if l = [] then (acc, 0) else ([], 12)
  | n + 1, l, acc => if (rd 2305843009213693952 0 0 l).2.2 ≠ 0 then ([], (rd 2305843009213693952 0 0 l).2.2) else decN n (l.drop (rd 2305843009213693952 0 0 l).2.1) (acc ++ [unfold (rd 2305843009213693952 0 0 l).1])
def dec (l : List UInt8) : List Int × Nat :=
  if (rd 1152921504606846976 0 0 l).2.2 ≠ 0 then ([], (rd 1152921504606846976 0 0 l).2.2)
  else if 20000 < (rd 1152921504606846976 0 0 l).1 then ([], 4)
  else decN (rd 1152921504606846976 0 0 l).1 (l.drop (rd 1152921504606846976 0 0 l).2.1) []

theorem decN_flat (zs : List Int) : ∀ acc : List Int, (∀ z ∈ zs, inR z) → decN zs.length (flat zs) acc = (acc ++ zs, 0) := by
  induction zs with
  | nil => intro acc _; simp [decN, flat]
  | cons z r ih =>
    intro acc h
    have hz := fold_inR (h z (by simp))
    have e : rd 2305843009213693952 0 0 (Lib.uvarint (fold z) ++ flat r) = (fold z, (Lib.uvarint (fold z)).length, 0) := rd_uv _ hz (by omega)
    rw [List.length_cons, decN, flat, e, if_neg (by simp)]
    simp only [List.drop_left, unfold_fold]
    rw [ih _ (fun y hy => h y (List.mem_cons_of_mem _ hy))]
    simp

theorem decN_cut (zs : List Int) : ∀ (acc : List Int) (j : Nat), (∀ z ∈ zs, inR z) → j < (flat zs).length → decN zs.length ((flat zs).take j) acc = ([], 11) := by
  induction zs with
  | nil => intro acc j _ hj; simp [flat] at hj
  | cons z r ih =>
    intro acc j h hj
    have hz := fold_inR (h z (by simp))
    rw [flat] at hj ⊢
    rw [List.length_cons, decN]
    by_cases hc : j < (Lib.uvarint (fold z)).length
    · rw [List.take_append_of_le_length (by omega), rd_uv_cut (by omega) hc]
      simp
    · rw [List.take_append, List.take_of_length_le (by omega : (Lib.uvarint (fold z)).length ≤ j), rd_uv _ hz (by omega), if_neg (by simp)]
      simp only [List.drop_left, unfold_fold]
      exact ih _ _ (fun y hy => h y (List.mem_cons_of_mem _ hy)) (by rw [List.length_append] at hj; omega)

theorem decN_ok : ∀ (n : Nat) (l : List UInt8) (acc zs : List Int), decN n l acc = (zs, 0) → ∃ ys, zs = acc ++ ys ∧ ys.length = n ∧ l = flat ys ∧ ∀ z ∈ ys, inR z
  | 0, l, acc, zs, h => by
    unfold decN at h
    by_cases hl : l = []
    · rw [if_pos hl] at h
      exact ⟨[], by simpa using (Prod.mk.inj h).1.symm, rfl, hl, by simp⟩
    · rw [if_neg hl] at h; simp at h
  | n + 1, l, acc, zs, h => by
    rw [decN] at h
    by_cases he : (rd 2305843009213693952 0 0 l).2.2 = 0
    · rw [if_neg (by simpa using he)] at h
      obtain ⟨m, k, h1, h2, h3, h4, h5, h6, h7⟩ := rd_ok 2305843009213693952 l 0 0 he
      obtain ⟨ys, e1, e2, e3, e4⟩ := decN_ok n _ _ _ h
      have hm : (rd 2305843009213693952 0 0 l).1 = m := by rw [h1]; simp
      have hk : (rd 2305843009213693952 0 0 l).2.1 = k := by rw [h3]; simp
      rw [hm] at e1 h2
      rw [hk] at e3
      refine ⟨unfold m :: ys, by rw [e1]; simp, by simp [e2], ?_, ?_⟩
      · rw [flat, fold_unfold, ← h6, ← e3, List.take_append_drop]
      · intro z hz
        rcases List.mem_cons.1 hz with rfl | hz
        · exact unfold_inR h2
        · exact e4 z hz
    · rw [if_pos he] at h
      exact absurd (Prod.mk.inj h).2 he

theorem dec_enc (zs : List Int) (hl : zs.length ≤ 20000) (h : ∀ z ∈ zs, inR z) : dec (enc zs) = (zs, 0) := by
  unfold dec enc
  rw [rd_uv _ (by omega) (by omega), if_neg (by simp), if_neg (by simp only; omega)]
  simp only [List.drop_left]
  rw [decN_flat zs [] h]
  simp
theorem dec_cut (zs : List Int) (hl : zs.length ≤ 20000) (h : ∀ z ∈ zs, inR z) (j : Nat) (hj : j < (enc zs).length) : dec ((enc zs).take j) = ([], 11) := by
  unfold dec
  unfold enc at hj ⊢
  by_cases hc : j < (Lib.uvarint zs.length).length
  · rw [List.take_append_of_le_length (by omega), rd_uv_cut (by omega) hc]
    simp
  · rw [List.take_append, List.take_of_length_le (by omega : (Lib.uvarint zs.length).length ≤ j), rd_uv _ (by omega) (by omega), if_neg (by simp), if_neg (by simp only; omega)]
    simp only [List.drop_left]
    exact decN_cut zs [] _ h (by rw [List.length_append] at hj; omega)
theorem dec_ok {l : List UInt8} {zs : List Int} (h : dec l = (zs, 0)) : l = enc zs ∧ zs.length ≤ 20000 ∧ ∀ z ∈ zs, inR z := by
  unfold dec at h
  by_cases he : (rd 1152921504606846976 0 0 l).2.2 = 0
  · rw [if_neg (by simpa using he)] at h
    by_cases hn : 20000 < (rd 1152921504606846976 0 0 l).1
    · rw [if_pos hn] at h; simp at h
    · rw [if_neg hn] at h
      obtain ⟨m, k, h1, h2, h3, h4, h5, h6, h7⟩ := rd_ok 1152921504606846976 l 0 0 he
      obtain ⟨ys, e1, e2, e3, e4⟩ := decN_ok _ _ _ _ h
      have hm : (rd 1152921504606846976 0 0 l).1 = m := by rw [h1]; simp
      have hk : (rd 1152921504606846976 0 0 l).2.1 = k := by rw [h3]; simp
      rw [hm] at e2 hn
      rw [hk] at e3
      rw [List.nil_append] at e1
      subst e1
      refine ⟨?_, by omega, e4⟩
      unfold enc
      rw [e2, ← h6, ← e3, List.take_append_drop]
  · rw [if_pos he] at h
    exact absurd (Prod.mk.inj h).2 he
end Go.Proofs.Ytpinmmmbmhfmiaa
