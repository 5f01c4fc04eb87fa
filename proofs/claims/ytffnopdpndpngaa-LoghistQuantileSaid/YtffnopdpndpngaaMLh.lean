/- Layer 12, ahead: the buckets of values: index and bounds. Layer 12, ahead: lists of buckets as numbers of indices. Layer 12, ahead: histograms, and of which values they are. Layer 12, ahead: which histograms are valid; those of values are. Layer 12, ahead: adding, reducing, merging with their errors; quantiles and ranks, and what they promise. Layer 12, ahead: the order of quantiles in valid histograms. Layer 12, ahead: the least and the greatest sum, bucket by bucket, and their bounds. -/
import Derived.Lib.Hide
set_option linter.unusedVariables false
set_option linter.unusedSimpArgs false
namespace Go.Proofs.Ytffnopdpndpngaa.Lh
/-- How often a value is halved. -/
def kv (p v : Nat) : Nat := (v / 2 ^ p).log2
/-- The index of a value's bucket. -/
def ix (p v : Nat) : Nat := kv p v * 2 ^ p + v / 2 ^ kv p v
/-- How often the values of a bucket are halved. -/
def kb (p i : Nat) : Nat := i / 2 ^ p - 1
/-- The least value of a bucket. -/
def lo (p i : Nat) : Nat := (i - kb p i * 2 ^ p) * 2 ^ kb p i
/-- The greatest value of a bucket. -/
def hi (p i : Nat) : Nat := min (lo p i + 2 ^ kb p i - 1) (2 ^ 40)
/-- The greatest index. -/
def top (p : Nat) : Nat := ix p (2 ^ 40)
theorem pow_pos2 (n : Nat) : 0 < 2 ^ n := Nat.pow_pos (by decide)
theorem kv_eq {p v k : Nat} (h1 : v < 2 ^ k * (2 * 2 ^ p)) (h2 : k = 0 ∨ 2 ^ k * 2 ^ p ≤ v) : kv p v = k := by
  unfold kv
  by_cases h : v / 2 ^ p = 0
  · rw [h, Nat.log2_zero]
    rcases h2 with h2 | h2
    · exact h2.symm
    · exfalso
      have h3 : v < 2 ^ p := by
        have := Nat.lt_of_div_eq_zero (pow_pos2 p) h
        exact this
      have h4 : 1 * 2 ^ p ≤ 2 ^ k * 2 ^ p := Nat.mul_le_mul_right _ (pow_pos2 k)
      omega
  · rw [Nat.log2_eq_iff h]
    constructor
    · rcases h2 with h2 | h2
      · subst h2
        exact Nat.one_le_iff_ne_zero.mpr h
      · exact (Nat.le_div_iff_mul_le (pow_pos2 p)).mpr h2
    · rw [Nat.div_lt_iff_lt_mul (pow_pos2 p), Nat.pow_succ, Nat.mul_assoc]
      exact h1
theorem kv_spec (p v : Nat) : v < 2 ^ kv p v * (2 * 2 ^ p) ∧ (kv p v = 0 ∨ 2 ^ kv p v * 2 ^ p ≤ v) := by
  by_cases h : v / 2 ^ p = 0
  · have h3 : v < 2 ^ p := Nat.lt_of_div_eq_zero (pow_pos2 p) h
    have h4 : kv p v = 0 := by unfold kv; rw [h, Nat.log2_zero]
    rw [h4]
    exact ⟨by omega, .inl rfl⟩
  · have h5 := (Nat.log2_eq_iff (n := v / 2 ^ p) (k := kv p v) h).mp rfl
    obtain ⟨h6, h7⟩ := h5
    rw [Nat.le_div_iff_mul_le (pow_pos2 p)] at h6
    rw [Nat.div_lt_iff_lt_mul (pow_pos2 p), Nat.pow_succ, Nat.mul_assoc] at h7
    exact ⟨h7, .inr h6⟩
theorem kv_quot (p v : Nat) : v / 2 ^ kv p v < 2 * 2 ^ p ∧ (kv p v = 0 ∨ 2 ^ p ≤ v / 2 ^ kv p v) := by
  obtain ⟨h1, h2⟩ := kv_spec p v
  constructor
  · rw [Nat.div_lt_iff_lt_mul (pow_pos2 _), Nat.mul_comm]
    exact h1
  · rcases h2 with h2 | h2
    · exact .inl h2
    · refine .inr ?_
      rw [Nat.le_div_iff_mul_le (pow_pos2 _), Nat.mul_comm]
      exact h2
/-- The loop's end: halved until it is less. -/
theorem kv_least {p v k : Nat} (h1 : v / 2 ^ k < 2 * 2 ^ p) (h2 : k = 0 ∨ 2 * 2 ^ p ≤ v / 2 ^ (k - 1)) : kv p v = k := by
  refine kv_eq ?_ ?_
  · rw [Nat.div_lt_iff_lt_mul (pow_pos2 _), Nat.mul_comm] at h1
    exact h1
  · rcases h2 with h2 | h2
    · exact .inl h2
    · by_cases h0 : k = 0
      · exact .inl h0
      refine .inr ?_
      rw [Nat.le_div_iff_mul_le (pow_pos2 _)] at h2
      have h3 : 2 ^ k = 2 ^ (k - 1) * 2 := by rw [← Nat.pow_succ]; congr 1; omega
      rw [h3]
      have h4 : 2 ^ (k - 1) * 2 * 2 ^ p = 2 * 2 ^ p * 2 ^ (k - 1) := by
        rw [Nat.mul_comm (2 ^ (k - 1)) 2, Nat.mul_assoc, Nat.mul_assoc, Nat.mul_comm (2 ^ (k - 1))]
      omega
theorem kb_eq {p k m : Nat} (h1 : m < 2 * 2 ^ p) (h2 : k = 0 ∨ 2 ^ p ≤ m) : kb p (k * 2 ^ p + m) = k := by
  unfold kb
  have h3 : (k * 2 ^ p + m) / 2 ^ p = k + m / 2 ^ p := by
    rw [Nat.add_comm, Nat.add_mul_div_right _ _ (pow_pos2 p), Nat.add_comm]
  rw [h3]
  have h4 : m / 2 ^ p < 2 := (Nat.div_lt_iff_lt_mul (pow_pos2 p)).mpr h1
  rcases h2 with h2 | h2
  · omega
  · have h5 : 1 ≤ m / 2 ^ p := (Nat.le_div_iff_mul_le (pow_pos2 p)).mpr (by omega)
    omega
/-- A bucket's index taken apart. -/
theorem kb_spec (p i : Nat) : kb p i * 2 ^ p ≤ i ∧ i - kb p i * 2 ^ p < 2 * 2 ^ p ∧ (kb p i = 0 ∨ 2 ^ p ≤ i - kb p i * 2 ^ p) := by
  unfold kb
  have h1 := Nat.div_add_mod i (2 ^ p)
  have h2 := Nat.mod_lt i (pow_pos2 p)
  rw [Nat.mul_comm] at h1
  have h3 : (i / 2 ^ p - 1) * 2 ^ p = i / 2 ^ p * 2 ^ p - 2 ^ p := by rw [Nat.sub_mul, Nat.one_mul]
  have h4 : (i / 2 ^ p = 0 ∧ i < 2 ^ p) ∨ 2 ^ p ≤ i / 2 ^ p * 2 ^ p := by
    by_cases h : i / 2 ^ p = 0
    · exact .inl ⟨h, Nat.lt_of_div_eq_zero (pow_pos2 p) h⟩
    · have h4 : 1 * 2 ^ p ≤ i / 2 ^ p * 2 ^ p := Nat.mul_le_mul_right _ (Nat.pos_of_ne_zero h)
      exact .inr (by rw [Nat.one_mul] at h4; exact h4)
  generalize hq : i / 2 ^ p = q at *
  generalize hP : 2 ^ p = P at *
  generalize hr : i % P = r at *
  rcases h4 with h4 | h4
  · obtain ⟨h4, h5⟩ := h4
    subst h4
    simp only [Nat.zero_mul, Nat.zero_sub, Nat.sub_zero]
    exact ⟨by omega, by omega, by simp⟩
  · rw [h3]
    generalize q * P = t at *
    exact ⟨by omega, by omega, by omega⟩
theorem kb_least {p i k : Nat} (h0 : k * 2 ^ p ≤ i) (h1 : i - k * 2 ^ p < 2 * 2 ^ p) (h2 : k = 0 ∨ 2 * 2 ^ p ≤ i - (k - 1) * 2 ^ p) : kb p i = k := by
  have h3 : i = k * 2 ^ p + (i - k * 2 ^ p) := by omega
  rw [h3]
  refine kb_eq h1 ?_
  rcases h2 with h2 | h2
  · exact .inl h2
  · by_cases hk : k = 0
    · exact .inl hk
    have h4 : (k - 1) * 2 ^ p = k * 2 ^ p - 2 ^ p := by rw [Nat.sub_mul, Nat.one_mul]
    have h5 : 1 * 2 ^ p ≤ k * 2 ^ p := Nat.mul_le_mul_right _ (by omega)
    exact .inr (by omega)
theorem lo_ix (p v : Nat) : kb p (ix p v) = kv p v ∧ lo p (ix p v) = v / 2 ^ kv p v * 2 ^ kv p v := by
  obtain ⟨h1, h2⟩ := kv_quot p v
  have h3 : kb p (ix p v) = kv p v := kb_eq h1 h2
  refine ⟨h3, ?_⟩
  unfold lo
  rw [h3]
  congr 1
  unfold ix
  rw [Nat.add_sub_cancel_left]
theorem ix_in (p v : Nat) : lo p (ix p v) ≤ v ∧ v < lo p (ix p v) + 2 ^ kb p (ix p v) := by
  rw [(lo_ix p v).1, (lo_ix p v).2]
  have h1 := Nat.div_add_mod v (2 ^ kv p v)
  have h2 := Nat.mod_lt v (pow_pos2 (kv p v))
  rw [Nat.mul_comm] at h1
  omega
theorem ix_of {p v i : Nat} (h1 : lo p i ≤ v) (h2 : v < lo p i + 2 ^ kb p i) : ix p v = i := by
  obtain ⟨g0, g1, g2⟩ := kb_spec p i
  generalize hm : i - kb p i * 2 ^ p = m at g1 g2
  have hlo : lo p i = m * 2 ^ kb p i := by unfold lo; rw [hm]
  rw [hlo] at h1 h2
  have hq : v / 2 ^ kb p i = m := by
    rw [Nat.div_eq_iff (pow_pos2 _)]
    constructor
    · exact h1
    · have := pow_pos2 (kb p i)
      omega
  have hk : kv p v = kb p i := by
    refine kv_eq ?_ ?_
    · rw [Nat.mul_comm, ← Nat.div_lt_iff_lt_mul (pow_pos2 _), hq]
      exact g1
    · rcases g2 with g2 | g2
      · exact .inl g2
      · refine .inr ?_
        rw [Nat.mul_comm]
        exact Nat.le_trans (Nat.mul_le_mul_right _ g2) h1
  unfold ix
  rw [hk, hq]
  omega
theorem lo_succ (p i : Nat) : lo p (i + 1) = lo p i + 2 ^ kb p i := by
  obtain ⟨g0, g1, g2⟩ := kb_spec p i
  generalize hm : i - kb p i * 2 ^ p = m at g1 g2
  generalize hk : kb p i = k at *
  have hi : i = k * 2 ^ p + m := by omega
  have hlo : lo p i = m * 2 ^ k := by unfold lo; rw [hk, hm]
  by_cases h : m + 1 < 2 * 2 ^ p
  · have h3 : kb p (i + 1) = k := by
      rw [hi, Nat.add_assoc]
      exact kb_eq h (by omega)
    unfold lo at *
    rw [h3, hk, show i + 1 - k * 2 ^ p = m + 1 from by omega, hm, Nat.add_mul, Nat.one_mul]
  · have h4 : i + 1 = (k + 1) * 2 ^ p + 2 ^ p := by
      rw [Nat.add_mul]
      omega
    have h3 : kb p (i + 1) = k + 1 := by
      rw [h4]
      exact kb_eq (by have := pow_pos2 p; omega) (.inr (Nat.le_refl _))
    rw [hlo]
    unfold lo
    rw [h3, h4, Nat.add_sub_cancel_left, Nat.pow_succ]
    have h5 : m + 1 = 2 * 2 ^ p := by omega
    have h6 : m * 2 ^ k + 2 ^ k = (m + 1) * 2 ^ k := by rw [Nat.add_mul, Nat.one_mul]
    rw [h6, h5, Nat.mul_comm (2 ^ k) 2, ← Nat.mul_assoc, Nat.mul_comm (2 ^ p) 2]
theorem lo_lt {p i j : Nat} (h : i < j) : lo p i + 2 ^ kb p i ≤ lo p j := by
  rw [← lo_succ]
  induction j with
  | zero => omega
  | succ j ih =>
    by_cases h1 : i = j
    · subst h1; exact Nat.le_refl _
    · have := ih (by omega)
      rw [lo_succ p j]
      exact Nat.le_trans this (Nat.le_add_right _ _)
theorem lo_mono {p i j : Nat} (h : i ≤ j) : lo p i ≤ lo p j := by
  by_cases h1 : i = j
  · subst h1; exact Nat.le_refl _
  · exact Nat.le_trans (Nat.le_add_right _ _) (lo_lt (p := p) (show i < j from by omega))
theorem ix_mono {p v w : Nat} (h : v ≤ w) : ix p v ≤ ix p w := by
  by_cases h1 : ix p v ≤ ix p w
  · exact h1
  · have h2 := lo_lt (p := p) (show ix p w < ix p v from by omega)
    have h3 := ix_in p v
    have h4 := ix_in p w
    omega
theorem ix_lo (p i : Nat) : ix p (lo p i) = i := ix_of (Nat.le_refl _) (by have := pow_pos2 (kb p i); omega)
theorem lo_zero (p : Nat) : lo p 0 = 0 := by unfold lo kb; simp
theorem ix_lt {p v i : Nat} : ix p v < i ↔ v < lo p i := by
  constructor
  · intro h
    have h1 := lo_lt (p := p) h
    have h2 := ix_in p v
    omega
  · intro h
    by_cases h1 : ix p v < i
    · exact h1
    · have h2 := lo_mono (p := p) (show i ≤ ix p v from by omega)
      have h3 := ix_in p v
      omega
theorem ix_le {p v i : Nat} : i ≤ ix p v ↔ lo p i ≤ v := by
  have := @ix_lt p v i
  omega
/-- With a lower precision a bucket's values lie in one bucket. -/
theorem ix_low {p q v : Nat} (h : q ≤ p) : ix q (lo p (ix p v)) = ix q v := by
  have hlo := (lo_ix p v).2
  obtain ⟨a1, a2⟩ := kv_spec p v
  obtain ⟨b1, b2⟩ := kv_spec q v
  have hle := (ix_in p v).1
  generalize hl : lo p (ix p v) = l at *
  generalize hk : kv p v = k at *
  generalize hK : kv q v = K at *
  have hkK : k ≤ K := by
    rcases a2 with a2 | a2
    · omega
    · have h1 : 2 ^ k * 2 ^ p < 2 ^ K * (2 * 2 ^ q) := by omega
      have h2 : 2 ^ (k + p) < 2 ^ (K + (q + 1)) := by
        rw [Nat.pow_add, Nat.pow_add, Nat.pow_succ, Nat.mul_comm (2 ^ q) 2]
        exact h1
      have h3 := (Nat.pow_lt_pow_iff_right (a := 2) (by decide)).mp h2
      omega
  have hq : l / 2 ^ K = v / 2 ^ K := by
    have e : 2 ^ K = 2 ^ k * 2 ^ (K - k) := by rw [← Nat.pow_add]; congr 1; omega
    rw [e, ← Nat.div_div_eq_div_mul, ← Nat.div_div_eq_div_mul, hlo, Nat.mul_div_cancel _ (pow_pos2 k)]
  have hkl : kv q l = K := by
    refine kv_eq (by omega) ?_
    rcases b2 with b2 | b2
    · exact .inl b2
    · refine .inr ?_
      have h5 : 2 ^ q ≤ v / 2 ^ K := (Nat.le_div_iff_mul_le (pow_pos2 _)).mpr (by rw [Nat.mul_comm]; exact b2)
      rw [← hq, Nat.le_div_iff_mul_le (pow_pos2 _)] at h5
      rw [Nat.mul_comm]
      exact h5
  unfold ix
  rw [hkl, hK, hq]
theorem width (p i : Nat) : (lo p i + 2 ^ kb p i - 1 - lo p i) * 2 ^ p ≤ lo p i := by
  obtain ⟨g0, g1, g2⟩ := kb_spec p i
  rw [show lo p i + 2 ^ kb p i - 1 - lo p i = 2 ^ kb p i - 1 from by omega]
  rcases g2 with g2 | g2
  · rw [g2]; simp
  · unfold lo
    refine Nat.le_trans (Nat.mul_le_mul_right _ (Nat.sub_le _ 1)) ?_
    rw [Nat.mul_comm]
    exact Nat.mul_le_mul_right _ g2
theorem kv_le {p v : Nat} (h : v ≤ 2 ^ 40) : kv p v ≤ 40 := by
  rcases (kv_spec p v).2 with h1 | h1
  · omega
  · have h2 : 2 ^ kv p v * 1 ≤ 2 ^ kv p v * 2 ^ p := Nat.mul_le_mul_left _ (pow_pos2 p)
    have h3 : 2 ^ kv p v ≤ 2 ^ 40 := by omega
    exact (Nat.pow_le_pow_iff_right (by decide)).mp h3
theorem kb_le {p i : Nat} (h : i ≤ top p) : kb p i ≤ 40 := by
  have h1 : kb p (top p) = kv p (2 ^ 40) := (lo_ix p (2 ^ 40)).1
  have h2 := @kv_le p (2 ^ 40) (Nat.le_refl _)
  have h3 : i / 2 ^ p ≤ top p / 2 ^ p := Nat.div_le_div_right h
  unfold kb at *
  omega
theorem ix_top {p v : Nat} (h : v ≤ 2 ^ 40) : ix p v ≤ top p := ix_mono h
theorem lo_top {p i : Nat} : i ≤ top p ↔ lo p i ≤ 2 ^ 40 := ix_le
theorem top_le {p : Nat} (h : p ≤ 8) : top p ≤ 10752 := by
  have h1 := @kv_le p (2 ^ 40) (Nat.le_refl _)
  have h2 := (kv_quot p (2 ^ 40)).1
  have h3 : 2 ^ p ≤ 2 ^ 8 := (Nat.pow_le_pow_iff_right (by decide)).mpr h
  unfold top ix
  have h4 : kv p (2 ^ 40) * 2 ^ p ≤ 40 * 2 ^ 8 := Nat.mul_le_mul h1 h3
  omega
theorem hi_ge {p i : Nat} (h : i ≤ top p) : lo p i ≤ hi p i := by
  have h1 := lo_top.mp h
  have h2 := pow_pos2 (kb p i)
  unfold hi
  omega
/-- Exactly the values of a bucket have its index. -/
theorem ix_iff {p v i : Nat} (h : v ≤ 2 ^ 40) : ix p v = i ↔ lo p i ≤ v ∧ v ≤ hi p i := by
  have h2 := pow_pos2 (kb p i)
  constructor
  · intro e
    subst e
    have := ix_in p v
    unfold hi
    omega
  · intro e
    refine ix_of e.1 ?_
    unfold hi at e
    omega
theorem hi_succ {p i : Nat} (h : i + 1 ≤ top p) : hi p i + 1 = lo p (i + 1) := by
  have h1 := lo_top.mp h
  have h2 := pow_pos2 (kb p i)
  rw [lo_succ] at h1 ⊢
  unfold hi
  omega
theorem hi_top (p : Nat) : hi p (top p) = 2 ^ 40 := by
  have h1 := ix_in p (2 ^ 40)
  unfold hi top
  omega
end Go.Proofs.Ytffnopdpndpngaa.Lh
namespace Go.Proofs.Ytffnopdpndpngaa.Lh
/-- A bucket: its index and its number. -/
abbrev B := Int × Int
def Asc (l : List B) : Prop := l.Pairwise fun x y => x.1 < y.1
def Pos (l : List B) : Prop := ∀ b ∈ l, 1 ≤ b.2
theorem asc_cons {x : B} {l : List B} : Asc (x :: l) ↔ (∀ y ∈ l, x.1 < y.1) ∧ Asc l := List.pairwise_cons
theorem pos_cons {x : B} {l : List B} : Pos (x :: l) ↔ 1 ≤ x.2 ∧ Pos l := by
  unfold Pos
  simp only [List.mem_cons, forall_eq_or_imp]
theorem asc_nil : Asc [] := List.Pairwise.nil
theorem pos_nil : Pos [] := fun _ h => (List.not_mem_nil h).elim
/-- The sum of a function of the indices, each as often as it is there. -/
def W (F : Int → Int) : List B → Int
  | [] => 0
  | b :: r => b.2 * F b.1 + W F r
/-- One for an index. -/
def one (j : Int) : Int → Int := fun i => if i = j then 1 else 0
def cf (l : List B) (j : Int) : Int := W (one j) l
/-- The number of all. -/
def tot (l : List B) : Int := W (fun _ => 1) l
/-- The sum over keys. -/
def V (F : Int → Int) : List Int → Int
  | [] => 0
  | k :: r => F k + V F r
/-- n more of an index. -/
def put (i n : Int) : List B → List B
  | [] => [(i, n)]
  | b :: r => if b.1 < i then b :: put i n r else if b.1 = i then (b.1, b.2 + n) :: r else (i, n) :: b :: r
theorem W_put (F : Int → Int) (i n : Int) : ∀ l : List B, W F (put i n l) = W F l + n * F i
  | [] => by simp only [put, W]; omega
  | b :: r => by
    have ih := W_put F i n r
    unfold put
    by_cases h1 : b.1 < i
    · rw [if_pos h1]
      simp only [W, ih]
      omega
    · rw [if_neg h1]
      by_cases h2 : b.1 = i
      · rw [if_pos h2]
        simp only [W, h2, Int.add_mul]
        omega
      · rw [if_neg h2]
        simp only [W]
        omega
theorem cf_put (i n j : Int) (l : List B) : cf (put i n l) j = cf l j + if i = j then n else 0 := by
  unfold cf
  rw [W_put]
  unfold one
  by_cases h : i = j
  · rw [if_pos h, if_pos h, Int.mul_one]
  · rw [if_neg h, if_neg h, Int.mul_zero]
theorem tot_put (i n : Int) (l : List B) : tot (put i n l) = tot l + n := by
  unfold tot
  rw [W_put, Int.mul_one]
theorem put_mem {i n : Int} {x : B} : ∀ {l : List B}, x ∈ put i n l → x.1 = i ∨ ∃ y ∈ l, y.1 = x.1
  | [], h => by
    simp only [put, List.mem_cons, List.not_mem_nil, or_false] at h
    rw [h]
    exact .inl rfl
  | b :: r, h => by
    unfold put at h
    by_cases h1 : b.1 < i
    · rw [if_pos h1] at h
      rcases List.mem_cons.mp h with h | h
      · exact .inr ⟨b, List.mem_cons_self, by rw [h]⟩
      · rcases put_mem h with h | ⟨y, h, e⟩
        · exact .inl h
        · exact .inr ⟨y, List.mem_cons_of_mem _ h, e⟩
    · rw [if_neg h1] at h
      by_cases h2 : b.1 = i
      · rw [if_pos h2] at h
        rcases List.mem_cons.mp h with h | h
        · rw [h]; exact .inl h2
        · exact .inr ⟨x, List.mem_cons_of_mem _ h, rfl⟩
      · rw [if_neg h2] at h
        rcases List.mem_cons.mp h with h | h
        · rw [h]; exact .inl rfl
        · exact .inr ⟨x, h, rfl⟩
theorem put_asc {i n : Int} : ∀ {l : List B}, Asc l → Asc (put i n l)
  | [], _ => List.pairwise_singleton _ _
  | b :: r, h => by
    obtain ⟨h3, h4⟩ := asc_cons.mp h
    unfold put
    by_cases h1 : b.1 < i
    · rw [if_pos h1]
      refine asc_cons.mpr ⟨fun y hy => ?_, put_asc h4⟩
      rcases put_mem hy with e | ⟨z, hz, e⟩
      · rw [e]; exact h1
      · have := h3 z hz
        omega
    · rw [if_neg h1]
      by_cases h2 : b.1 = i
      · rw [if_pos h2]
        exact asc_cons.mpr ⟨h3, h4⟩
      · rw [if_neg h2]
        refine asc_cons.mpr ⟨fun y hy => ?_, h⟩
        rcases List.mem_cons.mp hy with e | hy
        · rw [e]; show i < b.1; omega
        · have := h3 y hy
          show i < y.1
          omega
theorem put_pos {i n : Int} (hn : 1 ≤ n) : ∀ {l : List B}, Pos l → Pos (put i n l)
  | [], _ => pos_cons.mpr ⟨hn, pos_nil⟩
  | b :: r, h => by
    obtain ⟨h3, h4⟩ := pos_cons.mp h
    unfold put
    by_cases h1 : b.1 < i
    · rw [if_pos h1]
      exact pos_cons.mpr ⟨h3, put_pos hn h4⟩
    · rw [if_neg h1]
      by_cases h2 : b.1 = i
      · rw [if_pos h2]
        exact pos_cons.mpr ⟨by show 1 ≤ b.2 + n; omega, h4⟩
      · rw [if_neg h2]
        exact pos_cons.mpr ⟨hn, h⟩
theorem put_len (i n : Int) : ∀ l : List B, (put i n l).length ≤ l.length + 1 ∧ l.length ≤ (put i n l).length
  | [] => by simp [put]
  | b :: r => by
    have ih := put_len i n r
    unfold put
    by_cases h1 : b.1 < i
    · rw [if_pos h1]; simp only [List.length_cons]; omega
    · rw [if_neg h1]
      by_cases h2 : b.1 = i
      · rw [if_pos h2]; simp only [List.length_cons]; omega
      · rw [if_neg h2]; simp only [List.length_cons]; omega
theorem W_zero {F : Int → Int} : ∀ {l : List B}, (∀ b ∈ l, F b.1 = 0) → W F l = 0
  | [], _ => rfl
  | b :: r, h => by
    simp only [W]
    rw [h b List.mem_cons_self, W_zero fun y hy => h y (List.mem_cons_of_mem _ hy)]
    simp
theorem W_congr {F G : Int → Int} : ∀ {l : List B}, (∀ b ∈ l, F b.1 = G b.1) → W F l = W G l
  | [], _ => rfl
  | b :: r, h => by
    simp only [W]
    rw [h b List.mem_cons_self, W_congr fun y hy => h y (List.mem_cons_of_mem _ hy)]
theorem W_le {F G : Int → Int} : ∀ {l : List B}, Pos l → (∀ b ∈ l, F b.1 ≤ G b.1) → W F l ≤ W G l
  | [], _, _ => Int.le_refl _
  | b :: r, hp, h => by
    simp only [W]
    obtain ⟨h1, h2⟩ := pos_cons.mp hp
    have h3 := W_le h2 fun y hy => h y (List.mem_cons_of_mem _ hy)
    have h4 := Int.mul_le_mul_of_nonneg_left (h b List.mem_cons_self) (show (0 : Int) ≤ b.2 by omega)
    omega
theorem cf_not {j : Int} {l : List B} (h : ∀ b ∈ l, b.1 ≠ j) : cf l j = 0 :=
  W_zero fun b hb => by unfold one; rw [if_neg (h b hb)]
theorem cf_cons (b : B) (r : List B) (j : Int) : cf (b :: r) j = (if b.1 = j then b.2 else 0) + cf r j := by
  unfold cf
  simp only [W, one]
  by_cases h : b.1 = j
  · rw [if_pos h, if_pos h, Int.mul_one]
  · rw [if_neg h, if_neg h, Int.mul_zero]
theorem cf_head {b : B} {r : List B} (h : Asc (b :: r)) : cf (b :: r) b.1 = b.2 := by
  rw [cf_cons, if_pos rfl, cf_not, Int.add_zero]
  intro y hy
  have := (asc_cons.mp h).1 y hy
  omega
theorem cf_nonneg {j : Int} : ∀ {l : List B}, Pos l → 0 ≤ cf l j
  | [], _ => Int.le_refl _
  | b :: r, h => by
    obtain ⟨h1, h2⟩ := pos_cons.mp h
    have := cf_nonneg (j := j) h2
    rw [cf_cons]
    split <;> omega
theorem cf_mem {x : B} : ∀ {l : List B}, Pos l → x ∈ l → x.2 ≤ cf l x.1
  | [], _, h => (List.not_mem_nil h).elim
  | b :: r, hp, h => by
    obtain ⟨h1, h2⟩ := pos_cons.mp hp
    rw [cf_cons]
    rcases List.mem_cons.mp h with h | h
    · rw [h, if_pos rfl]
      have := cf_nonneg (j := b.1) h2
      omega
    · have := cf_mem h2 h
      split <;> omega
theorem cf_pos {j : Int} {l : List B} (h : 0 < cf l j) : ∃ b ∈ l, b.1 = j := by
  by_cases h1 : ∃ b ∈ l, b.1 = j
  · exact h1
  · rw [cf_not fun b hb e => h1 ⟨b, hb, e⟩] at h
    omega
/-- Ascending buckets are what they hold. -/
theorem cf_ext : ∀ {l m : List B}, Asc l → Asc m → Pos l → Pos m → (∀ j, cf l j = cf m j) → l = m
  | [], [], _, _, _, _, _ => rfl
  | [], b :: r, _, h2, _, h4, h => by
    have h5 := h b.1
    rw [cf_head h2] at h5
    have := (pos_cons.mp h4).1
    simp only [cf, W] at h5
    omega
  | b :: r, [], h1, _, h3, _, h => by
    have h5 := h b.1
    rw [cf_head h1] at h5
    have := (pos_cons.mp h3).1
    simp only [cf, W] at h5
    omega
  | b :: r, c :: s, h1, h2, h3, h4, h => by
    have hb := h b.1
    have hc := h c.1
    rw [cf_head h1] at hb
    rw [cf_head h2] at hc
    have p1 := (pos_cons.mp h3).1
    have p2 := (pos_cons.mp h4).1
    have a1 := (asc_cons.mp h1).1
    have a2 := (asc_cons.mp h2).1
    have e1 : b.1 = c.1 := by
      rcases Int.lt_trichotomy b.1 c.1 with e | e | e
      · rw [cf_not] at hb
        · omega
        · intro y hy
          rcases List.mem_cons.mp hy with hy | hy
          · rw [hy]; omega
          · have := a2 y hy
            omega
      · exact e
      · rw [cf_not] at hc
        · omega
        · intro y hy
          rcases List.mem_cons.mp hy with hy | hy
          · rw [hy]; omega
          · have := a1 y hy
            omega
    have e2 : b.2 = c.2 := by
      rw [e1, cf_head h2] at hb
      exact hb
    have e3 : b = c := Prod.ext e1 e2
    subst e3
    rw [cf_ext (asc_cons.mp h1).2 (asc_cons.mp h2).2 (pos_cons.mp h3).2 (pos_cons.mp h4).2 fun j => by
      have := h j
      rw [cf_cons, cf_cons] at this
      omega]
theorem V_one_nonneg (j : Int) : ∀ ks : List Int, 0 ≤ V (one j) ks
  | [] => Int.le_refl _
  | k :: r => by
    have := V_one_nonneg j r
    simp only [V, one]
    split <;> omega
theorem V_split (F : Int → Int) (j : Int) : ∀ ks : List Int, V F ks = V (one j) ks * F j + V F (ks.filter fun k => decide (k ≠ j))
  | [] => by simp [V]
  | k :: r => by
    have ih := V_split F j r
    by_cases h : k = j
    · subst h
      rw [List.filter_cons_of_neg (by simp)]
      have e1 : one k k = 1 := by unfold one; rw [if_pos rfl]
      simp only [V, e1, Int.add_mul, Int.one_mul]
      rw [ih]
      omega
    · rw [List.filter_cons_of_pos (by simp [h])]
      simp only [V]
      rw [ih]
      unfold one
      rw [if_neg h, Int.zero_add]
      omega
theorem V_one_filter (i j : Int) : ∀ ks : List Int, V (one i) (ks.filter fun k => decide (k ≠ j)) = if i = j then 0 else V (one i) ks
  | [] => by simp [V]
  | k :: r => by
    have ih := V_one_filter i j r
    by_cases h : k = j
    · subst h
      rw [List.filter_cons_of_neg (by simp), ih]
      by_cases h2 : i = k
      · rw [if_pos h2, if_pos h2]
      · rw [if_neg h2, if_neg h2]
        simp only [V, one]
        rw [if_neg (fun e => h2 e.symm)]
        omega
    · rw [List.filter_cons_of_pos (by simp [h])]
      simp only [V]
      rw [ih]
      by_cases h2 : i = j
      · rw [if_pos h2, if_pos h2, h2]
        simp only [one]
        rw [if_neg h]
        rfl
      · rw [if_neg h2, if_neg h2]
/-- Sums over buckets are sums over what they hold. -/
theorem W_of (F : Int → Int) : ∀ {l : List B} {ks : List Int}, Asc l → (∀ j, cf l j = V (one j) ks) → W F l = V F ks
  | [], [], _, _ => rfl
  | [], k :: r, _, h => by
    have h1 := h k
    have h2 := V_one_nonneg k r
    have e1 : one k k = 1 := by unfold one; rw [if_pos rfl]
    simp only [cf, W, V, e1] at h1
    omega
  | b :: r, ks, ha, h => by
    obtain ⟨h1, h2⟩ := asc_cons.mp ha
    rw [V_split F b.1 ks, ← h b.1, cf_head ha]
    simp only [W]
    rw [W_of F (l := r) (ks := ks.filter fun k => decide (k ≠ b.1)) h2 fun j => ?_]
    rw [V_one_filter]
    by_cases hj : j = b.1
    · rw [if_pos hj, hj, cf_not]
      intro y hy
      have := h1 y hy
      omega
    · rw [if_neg hj, ← h j, cf_cons, if_neg (fun e => hj e.symm)]
      omega
theorem V_append (F : Int → Int) : ∀ a b : List Int, V F (a ++ b) = V F a + V F b
  | [], b => by simp [V]
  | x :: a, b => by
    simp only [List.cons_append, V]
    rw [V_append F a b]
    omega
theorem V_perm (F : Int → Int) {a b : List Int} (h : a.Perm b) : V F a = V F b := by
  induction h with
  | nil => rfl
  | cons x _ ih => simp only [V, ih]
  | swap x y l => simp only [V]; omega
  | trans _ _ i1 i2 => rw [i1, i2]
theorem V_le {F G : Int → Int} : ∀ {ks : List Int}, (∀ k ∈ ks, F k ≤ G k) → V F ks ≤ V G ks
  | [], _ => Int.le_refl _
  | k :: r, h => by
    simp only [V]
    have h1 := h k List.mem_cons_self
    have h2 := V_le (ks := r) fun y hy => h y (List.mem_cons_of_mem _ hy)
    omega
theorem V_map (F G : Int → Int) : ∀ ks : List Int, V F (ks.map G) = V (fun k => F (G k)) ks
  | [] => rfl
  | k :: r => by simp only [List.map_cons, V, V_map F G r]
theorem V_congr {F G : Int → Int} : ∀ {ks : List Int}, (∀ k ∈ ks, F k = G k) → V F ks = V G ks
  | [], _ => rfl
  | k :: r, h => by
    simp only [V]
    rw [h k List.mem_cons_self, V_congr (ks := r) fun y hy => h y (List.mem_cons_of_mem _ hy)]
theorem V_one_mem {ks : List Int} {k : Int} (h : k ∈ ks) : 1 ≤ V (one k) ks := by
  induction ks with
  | nil => exact (List.not_mem_nil h).elim
  | cons x r ih =>
    have h1 := V_one_nonneg k r
    simp only [V]
    rcases List.mem_cons.mp h with e | e
    · rw [← e]
      have : one k k = 1 := by unfold one; rw [if_pos rfl]
      omega
    · have h2 := ih e
      have : 0 ≤ one k x := by unfold one; split <;> omega
      omega
theorem V_one_pos {ks : List Int} {k : Int} (h : 0 < V (one k) ks) : k ∈ ks := by
  induction ks with
  | nil => simp [V] at h
  | cons x r ih =>
    by_cases e : x = k
    · rw [e]; exact List.mem_cons_self
    · simp only [V] at h
      have : one k x = 0 := by unfold one; rw [if_neg e]
      exact List.mem_cons_of_mem _ (ih (by omega))
theorem W_cf (F : Int → Int) {l : List B} (i n : Int) : W F (put i n l) = W F l + n * F i := W_put F i n l
/-- All buckets put into a list, their indices changed. -/
def puts (f : Int → Int) (m : List B) (l : List B) : List B := l.foldl (fun m b => put (f b.1) b.2 m) m
theorem W_puts (F f : Int → Int) : ∀ (l m : List B), W F (puts f m l) = W F m + W (fun j => F (f j)) l
  | [], m => by simp [puts, W]
  | b :: r, m => by
    have ih := W_puts F f r (put (f b.1) b.2 m)
    show W F (puts f (put (f b.1) b.2 m) r) = _
    rw [ih, W_put]
    simp only [W]
    omega
theorem puts_asc (f : Int → Int) : ∀ (l m : List B), Asc m → Asc (puts f m l)
  | [], m, h => h
  | b :: r, m, h => puts_asc f r (put (f b.1) b.2 m) (put_asc h)
theorem puts_pos (f : Int → Int) : ∀ (l m : List B), Pos l → Pos m → Pos (puts f m l)
  | [], m, _, h => h
  | b :: r, m, hl, h => puts_pos f r (put (f b.1) b.2 m) (pos_cons.mp hl).2 (put_pos (pos_cons.mp hl).1 h)
theorem puts_len (f : Int → Int) : ∀ (l m : List B), (puts f m l).length ≤ m.length + l.length
  | [], m => by simp [puts]
  | b :: r, m => by
    have h1 := puts_len f r (put (f b.1) b.2 m)
    have h2 := (put_len (f b.1) b.2 m).1
    show (puts f (put (f b.1) b.2 m) r).length ≤ _
    simp only [List.length_cons]
    omega
end Go.Proofs.Ytffnopdpndpngaa.Lh
namespace Go.Proofs.Ytffnopdpndpngaa.Lh
/-- A histogram: its precision, number, sum, least and greatest value, and its buckets. -/
structure H where
  p : Int
  c : Int
  s : Int
  mn : Int
  mx : Int
  bs : List B
def zeroH : H := ⟨0, 0, 0, 0, 0, []⟩
theorem H.ext2 {a b : H} (h1 : a.p = b.p) (h2 : a.c = b.c) (h3 : a.s = b.s) (h4 : a.mn = b.mn) (h5 : a.mx = b.mx) (h6 : a.bs = b.bs) : a = b := by
  cases a; cases b
  simp only at h1 h2 h3 h4 h5 h6
  subst h1; subst h2; subst h3; subst h4; subst h5; subst h6
  rfl
def ixI (p v : Int) : Int := (ix p.toNat v.toNat : Nat)
def loI (p i : Int) : Int := (lo p.toNat i.toNat : Nat)
def hiI (p i : Int) : Int := (hi p.toNat i.toNat : Nat)
def topI (p : Int) : Int := (top p.toNat : Nat)
def newH (p : Int) : H := ⟨p, 0, 0, 0, 0, []⟩
/-- A value some times more (at least once). -/
def addH (h : H) (v n : Int) : H := ⟨h.p, h.c + n, h.s + n * v, min (if h.c = 0 then v else h.mn) v, max (if h.c = 0 then v else h.mx) v, put (ixI h.p v) n h.bs⟩
def redH (h : H) (q : Int) : H := ⟨q, h.c, h.s, h.mn, h.mx, puts (fun j => ixI q (loI h.p j)) [] h.bs⟩
/-- Both, of the same precision. -/
def mrgH (a b : H) : H := if a.c = 0 then b else if b.c = 0 then a else ⟨a.p, a.c + b.c, a.s + b.s, min a.mn b.mn, max a.mx b.mx, puts (fun j => j) a.bs b.bs⟩
/-- The histogram is that of these values. -/
structure Of (p : Int) (vs : List Int) (h : H) : Prop where
  hp : h.p = p
  hc : h.c = vs.length
  hs : h.s = V (fun v => v) vs
  asc : Asc h.bs
  pos : Pos h.bs
  hcf : ∀ j, cf h.bs j = V (one j) (vs.map (ixI p))
  no : vs = [] → h.mn = 0 ∧ h.mx = 0
  mn : vs ≠ [] → h.mn ∈ vs ∧ ∀ v ∈ vs, h.mn ≤ v
  mx : vs ≠ [] → h.mx ∈ vs ∧ ∀ v ∈ vs, v ≤ h.mx
theorem Of.nil (p : Int) : Of p [] (newH p) :=
  ⟨rfl, rfl, rfl, asc_nil, pos_nil, fun _ => rfl, fun _ => ⟨rfl, rfl⟩, fun h => (h rfl).elim, fun h => (h rfl).elim⟩
theorem Of.c_zero {p : Int} {vs : List Int} {h : H} (o : Of p vs h) : h.c = 0 ↔ vs = [] := by
  rw [o.hc]
  cases vs with
  | nil => simp
  | cons x r => simp only [List.length_cons]; constructor
                · intro e; omega
                · intro e; exact (List.cons_ne_nil _ _ e).elim
theorem min_le2 (a b : Int) : (min a b = a ∧ a ≤ b) ∨ (min a b = b ∧ b ≤ a) := by
  have h1 : min a b = if a ≤ b then a else b := Int.min_def a b
  split at h1 <;> omega
theorem max_le2 (a b : Int) : (max a b = a ∧ b ≤ a) ∨ (max a b = b ∧ a ≤ b) := by
  have h1 : max a b = if a ≤ b then b else a := Int.max_def a b
  split at h1 <;> omega
theorem Of.add {p : Int} {vs : List Int} {h : H} (o : Of p vs h) (v : Int) : Of p (vs ++ [v]) (addH h v 1) := by
  refine ⟨o.hp, ?_, ?_, put_asc o.asc, put_pos (Int.le_refl _) o.pos, fun j => ?_, fun e => ?_, fun _ => ?_, fun _ => ?_⟩
  · show h.c + 1 = _
    rw [o.hc, List.length_append, List.length_singleton]
    omega
  · show h.s + 1 * v = _
    rw [o.hs, V_append]
    simp only [V]
    omega
  · show cf (put (ixI h.p v) 1 h.bs) j = _
    rw [cf_put, o.hcf, List.map_append, V_append, o.hp]
    simp only [List.map_cons, List.map_nil, V, one]
    omega
  · exact (List.append_ne_nil_of_right_ne_nil vs (List.cons_ne_nil v []) e).elim
  · show min (if h.c = 0 then v else h.mn) v ∈ _ ∧ ∀ w ∈ _, min (if h.c = 0 then v else h.mn) v ≤ w
    by_cases e : h.c = 0
    · have e2 := o.c_zero.mp e
      subst e2
      rw [if_pos e]
      simp only [List.nil_append, List.mem_singleton, forall_eq]
      rcases min_le2 v v with h1 | h1 <;> omega
    · have e2 : vs ≠ [] := fun e2 => e (o.c_zero.mpr e2)
      obtain ⟨h1, h2⟩ := o.mn e2
      rw [if_neg e]
      simp only [List.mem_append, List.mem_singleton]
      rcases min_le2 h.mn v with ⟨h3, h4⟩ | ⟨h3, h4⟩
      · rw [h3]
        exact ⟨.inl h1, fun w hw => hw.elim (h2 w) fun e => by omega⟩
      · rw [h3]
        exact ⟨.inr rfl, fun w hw => hw.elim (fun hw => by have := h2 w hw; omega) fun e => by omega⟩
  · show max (if h.c = 0 then v else h.mx) v ∈ _ ∧ ∀ w ∈ _, w ≤ max (if h.c = 0 then v else h.mx) v
    by_cases e : h.c = 0
    · have e2 := o.c_zero.mp e
      subst e2
      rw [if_pos e]
      simp only [List.nil_append, List.mem_singleton, forall_eq]
      rcases max_le2 v v with h1 | h1 <;> omega
    · have e2 : vs ≠ [] := fun e2 => e (o.c_zero.mpr e2)
      obtain ⟨h1, h2⟩ := o.mx e2
      rw [if_neg e]
      simp only [List.mem_append, List.mem_singleton]
      rcases max_le2 h.mx v with ⟨h3, h4⟩ | ⟨h3, h4⟩
      · rw [h3]
        exact ⟨.inl h1, fun w hw => hw.elim (h2 w) fun e => by omega⟩
      · rw [h3]
        exact ⟨.inr rfl, fun w hw => hw.elim (fun hw => by have := h2 w hw; omega) fun e => by omega⟩
theorem Of.perm {p : Int} {vs ws : List Int} {h : H} (o : Of p vs h) (e : vs.Perm ws) : Of p ws h := by
  have hn : ws = [] ↔ vs = [] := by
    constructor
    · intro h; subst h; exact e.eq_nil
    · intro h; subst h; exact e.symm.eq_nil
  refine ⟨o.hp, by rw [o.hc, e.length_eq], by rw [o.hs, V_perm _ e], o.asc, o.pos, fun j => by rw [o.hcf, V_perm _ (e.map _)], fun h => o.no (hn.mp h), fun h => ?_, fun h => ?_⟩
  · obtain ⟨h1, h2⟩ := o.mn fun h3 => h (hn.mpr h3)
    exact ⟨e.mem_iff.mp h1, fun v hv => h2 v (e.mem_iff.mpr hv)⟩
  · obtain ⟨h1, h2⟩ := o.mx fun h3 => h (hn.mpr h3)
    exact ⟨e.mem_iff.mp h1, fun v hv => h2 v (e.mem_iff.mpr hv)⟩
theorem Of.uniq {p : Int} {vs : List Int} {a b : H} (o : Of p vs a) (q : Of p vs b) : a = b := by
  have hb : a.bs = b.bs := cf_ext o.asc q.asc o.pos q.pos fun j => by rw [o.hcf, q.hcf]
  by_cases e : vs = []
  · exact H.ext2 (by rw [o.hp, q.hp]) (by rw [o.hc, q.hc]) (by rw [o.hs, q.hs]) (by rw [(o.no e).1, (q.no e).1]) (by rw [(o.no e).2, (q.no e).2]) hb
  · obtain ⟨h1, h2⟩ := o.mn e
    obtain ⟨h3, h4⟩ := q.mn e
    obtain ⟨h5, h6⟩ := o.mx e
    obtain ⟨h7, h8⟩ := q.mx e
    have g1 := h2 _ h3
    have g2 := h4 _ h1
    have g3 := h6 _ h7
    have g4 := h8 _ h5
    exact H.ext2 (by rw [o.hp, q.hp]) (by rw [o.hc, q.hc]) (by rw [o.hs, q.hs]) (by omega) (by omega) hb
theorem ixI_low {p q v : Int} (h0 : 0 ≤ q) (h : q ≤ p) : ixI q (loI p (ixI p v)) = ixI q v := by
  unfold ixI loI
  rw [Int.toNat_natCast, Int.toNat_natCast, ix_low (by omega)]
theorem V_one_map (G : Int → Int) (j : Int) (ks : List Int) : V (one j) (ks.map G) = V (fun k => one j (G k)) ks := V_map _ _ _
theorem Of.red {p q : Int} {vs : List Int} {h : H} (o : Of p vs h) (h0 : 0 ≤ q) (hq : q ≤ p) : Of q vs (redH h q) := by
  have a1 : Asc (puts (fun j => ixI q (loI h.p j)) [] h.bs) := puts_asc _ h.bs [] asc_nil
  have a2 : Pos (puts (fun j => ixI q (loI h.p j)) [] h.bs) := puts_pos _ h.bs [] o.pos pos_nil
  refine ⟨rfl, o.hc, o.hs, a1, a2, fun j => ?_, o.no, o.mn, o.mx⟩
  show W (one j) (puts (fun j => ixI q (loI h.p j)) [] h.bs) = _
  rw [W_puts, W_of _ o.asc o.hcf, V_map, V_map, o.hp]
  simp only [W, Int.zero_add]
  exact V_congr fun k hk => by rw [ixI_low h0 hq]
theorem Of.mrg {p : Int} {vs ws : List Int} {a b : H} (o : Of p vs a) (q : Of p ws b) : Of p (vs ++ ws) (mrgH a b) := by
  unfold mrgH
  by_cases e1 : a.c = 0
  · rw [if_pos e1, o.c_zero.mp e1]
    exact q
  rw [if_neg e1]
  by_cases e2 : b.c = 0
  · rw [if_pos e2, q.c_zero.mp e2, List.append_nil]
    exact o
  rw [if_neg e2]
  have n1 : vs ≠ [] := fun e => e1 (o.c_zero.mpr e)
  have n2 : ws ≠ [] := fun e => e2 (q.c_zero.mpr e)
  obtain ⟨h1, h2⟩ := o.mn n1
  obtain ⟨h3, h4⟩ := q.mn n2
  obtain ⟨h5, h6⟩ := o.mx n1
  obtain ⟨h7, h8⟩ := q.mx n2
  have a1 : Asc (puts (fun j => j) a.bs b.bs) := puts_asc _ b.bs a.bs o.asc
  have a2 : Pos (puts (fun j => j) a.bs b.bs) := puts_pos _ b.bs a.bs q.pos o.pos
  refine ⟨o.hp, ?_, ?_, a1, a2, fun j => ?_, fun e => (n1 (List.append_eq_nil_iff.mp e).1).elim, fun _ => ?_, fun _ => ?_⟩
  · show a.c + b.c = _
    rw [o.hc, q.hc, List.length_append]
    omega
  · show a.s + b.s = _
    rw [o.hs, q.hs, V_append]
  · show W (one j) (puts (fun j => j) a.bs b.bs) = _
    rw [W_puts, List.map_append, V_append, ← o.hcf, ← q.hcf]
    rfl
  · show min a.mn b.mn ∈ _ ∧ ∀ w ∈ _, min a.mn b.mn ≤ w
    simp only [List.mem_append]
    rcases min_le2 a.mn b.mn with ⟨h, g⟩ | ⟨h, g⟩
    · rw [h]
      exact ⟨.inl h1, fun w hw => hw.elim (h2 w) fun hw => by have := h4 w hw; omega⟩
    · rw [h]
      exact ⟨.inr h3, fun w hw => hw.elim (fun hw => by have := h2 w hw; omega) (h4 w)⟩
  · show max a.mx b.mx ∈ _ ∧ ∀ w ∈ _, w ≤ max a.mx b.mx
    simp only [List.mem_append]
    rcases max_le2 a.mx b.mx with ⟨h, g⟩ | ⟨h, g⟩
    · rw [h]
      exact ⟨.inl h5, fun w hw => hw.elim (h6 w) fun hw => by have := h8 w hw; omega⟩
    · rw [h]
      exact ⟨.inr h7, fun w hw => hw.elim (fun hw => by have := h6 w hw; omega) (h8 w)⟩
theorem len_le_tot : ∀ {l : List B}, Pos l → (l.length : Int) ≤ tot l
  | [], _ => Int.le_refl _
  | b :: r, h => by
    obtain ⟨h1, h2⟩ := pos_cons.mp h
    have h3 := len_le_tot h2
    unfold tot at *
    simp only [W, List.length_cons, Int.mul_one]
    omega
theorem V_const : ∀ ks : List Int, V (fun _ => 1) ks = ks.length
  | [] => rfl
  | k :: r => by simp only [V, V_const r, List.length_cons]; omega
theorem Of.tot {p : Int} {vs : List Int} {h : H} (o : Of p vs h) : Lh.tot h.bs = vs.length := by
  unfold Lh.tot
  rw [W_of _ o.asc o.hcf, V_const, List.length_map]
theorem Of.len {p : Int} {vs : List Int} {h : H} (o : Of p vs h) : h.bs.length ≤ vs.length := by
  have h1 := len_le_tot o.pos
  rw [o.tot] at h1
  omega
theorem Of.key {p : Int} {vs : List Int} {h : H} (o : Of p vs h) {b : B} (hb : b ∈ h.bs) : ∃ v ∈ vs, ixI p v = b.1 := by
  have h1 := cf_mem o.pos hb
  have h2 := o.pos b hb
  rw [o.hcf] at h1
  have h3 := V_one_pos (show 0 < V (one b.1) (vs.map (ixI p)) by omega)
  obtain ⟨v, hv, e⟩ := List.mem_map.mp h3
  exact ⟨v, hv, e⟩
theorem Of.key2 {p : Int} {vs : List Int} {h : H} (o : Of p vs h) {v : Int} (hv : v ∈ vs) : ∃ b ∈ h.bs, b.1 = ixI p v := by
  refine cf_pos ?_
  rw [o.hcf]
  have := V_one_mem (List.mem_map_of_mem (f := ixI p) hv)
  omega
end Go.Proofs.Ytffnopdpndpngaa.Lh
namespace Go.Proofs.Ytffnopdpndpngaa.Lh
def lastB : B → List B → B
  | b, [] => b
  | _, c :: r => lastB c r
theorem lastB_mem : ∀ (b : B) (r : List B), lastB b r ∈ b :: r
  | b, [] => List.mem_cons_self
  | b, c :: r => List.mem_cons_of_mem _ (lastB_mem c r)
theorem lastB_max : ∀ {b : B} {r : List B}, Asc (b :: r) → ∀ x ∈ b :: r, x.1 ≤ (lastB b r).1
  | b, [], _, x, h => by
    rw [List.mem_singleton.mp h]
    exact Int.le_refl _
  | b, c :: r, ha, x, h => by
    obtain ⟨h1, h2⟩ := asc_cons.mp ha
    rcases List.mem_cons.mp h with h | h
    · rw [h]
      have h3 := h1 _ (lastB_mem c r)
      show b.1 ≤ (lastB c r).1
      omega
    · exact lastB_max h2 x h
def lastLow (p mn : Int) (b : B) (r : List B) : Int := if r.isEmpty = true then mn else loI p (lastB b r).1
def leastH (h : H) (b : B) (r : List B) : Int := h.mx - h.mn + (b.2 * h.mn + W (loI h.p) r) + h.mn - lastLow h.p h.mn b r
def firstHigh (p mx : Int) (b : B) (r : List B) : Int := if r.isEmpty = true then mx else hiI p b.1
def mostT (p mx : Int) : B → List B → Int
  | b, [] => b.2 * mx
  | b, c :: r => b.2 * hiI p b.1 + mostT p mx c r
def mostH (h : H) (b : B) (r : List B) : Int := h.mn - h.mx + mostT h.p h.mx b r + h.mx - firstHigh h.p h.mx b r
/-- What is wrong with the buckets, behind one of an index. -/
def chkB (p : Int) : Option Int → List B → Nat
  | _, [] => 0
  | t, b :: r => if b.1 < 0 ∨ topI p < b.1 ∨ b.2 < 1 ∨ 1048576 < b.2 then 2 else if (match t with | none => false | some t => decide (b.1 ≤ t)) = true then 9 else chkB p (some b.1) r
def fitsH (h : H) (n : Int) : Bool := if n = 0 then decide (h.c = 0 ∧ h.s = 0 ∧ h.mn = 0 ∧ h.mx = 0) else if h.mn < 0 ∨ 1099511627776 < h.mx ∨ h.mx < h.mn ∨ h.c ≠ n then false else match h.bs with
  | [] => false
  | b :: r => if ixI h.p h.mn ≠ b.1 ∨ ixI h.p h.mx ≠ (lastB b r).1 then false else if n = 1 then decide (h.mn = h.mx ∧ h.s = h.mn) else decide (leastH h b r ≤ h.s ∧ h.s ≤ mostH h b r)
def chk (h : H) : Nat := if h.p < 0 ∨ 8 < h.p then 2 else if 500 < h.bs.length then 4 else if chkB h.p none h.bs ≠ 0 then chkB h.p none h.bs else if 1048576 < tot h.bs then 4 else if fitsH h (tot h.bs) = true then 0 else 10
structure Ok (h : H) : Prop where
  p0 : 0 ≤ h.p
  p8 : h.p ≤ 8
  len : h.bs.length ≤ 500
  asc : Asc h.bs
  pos : Pos h.bs
  rng : ∀ b ∈ h.bs, 0 ≤ b.1 ∧ b.1 ≤ topI h.p ∧ b.2 ≤ 1048576
  tot : Lh.tot h.bs ≤ 1048576
  fits : fitsH h (Lh.tot h.bs) = true
theorem chkB_iff {p : Int} : ∀ {l : List B} {t : Option Int}, chkB p t l = 0 ↔ (Asc l ∧ Pos l ∧ ∀ b ∈ l, 0 ≤ b.1 ∧ b.1 ≤ topI p ∧ b.2 ≤ 1048576) ∧ (∀ j ∈ t, ∀ b ∈ l, j < b.1)
  | [], t => ⟨fun _ => ⟨⟨asc_nil, pos_nil, fun _ h => (List.not_mem_nil h).elim⟩, fun _ _ _ h => (List.not_mem_nil h).elim⟩, fun _ => rfl⟩
  | b :: r, t => by
    have ih := chkB_iff (p := p) (l := r) (t := some b.1)
    unfold chkB
    rw [asc_cons, pos_cons]
    by_cases h1 : b.1 < 0 ∨ topI p < b.1 ∨ b.2 < 1 ∨ 1048576 < b.2
    · rw [if_pos h1]
      refine ⟨fun h => by omega, fun h => ?_⟩
      have h2 := h.1.2.1.1
      have h3 := h.1.2.2 b List.mem_cons_self
      omega
    rw [if_neg h1]
    by_cases h2 : (match t with | none => false | some t => decide (b.1 ≤ t)) = true
    · rw [if_pos h2]
      refine ⟨fun h => by omega, fun h => ?_⟩
      exfalso
      cases t with
      | none => simp at h2
      | some j =>
        have h3 := h.2 j rfl b List.mem_cons_self
        simp only [decide_eq_true_eq] at h2
        omega
    rw [if_neg h2, ih]
    have h3 : ∀ j ∈ t, j < b.1 := by
      intro j hj
      rw [Option.mem_def.mp hj] at h2
      simp only [decide_eq_true_eq] at h2
      omega
    constructor
    · rintro ⟨⟨g1, g2, g3⟩, g4⟩
      have g5 : ∀ y ∈ r, b.1 < y.1 := fun y hy => g4 b.1 rfl y hy
      refine ⟨⟨⟨g5, g1⟩, ⟨by omega, g2⟩, fun y hy => ?_⟩, fun j hj y hy => ?_⟩
      · rcases List.mem_cons.mp hy with e | hy
        · rw [e]; omega
        · exact g3 y hy
      · have g6 := h3 j hj
        rcases List.mem_cons.mp hy with e | hy
        · rw [e]; exact g6
        · have := g5 y hy
          omega
    · rintro ⟨⟨⟨g1, g2⟩, ⟨_, g3⟩, g4⟩, g5⟩
      refine ⟨⟨g2, g3, fun y hy => g4 y (List.mem_cons_of_mem _ hy)⟩, fun j hj y hy => ?_⟩
      have e : b.1 = j := Option.some.inj (Option.mem_def.mp hj)
      rw [← e]
      exact g1 y hy
theorem chk_iff {h : H} : chk h = 0 ↔ Ok h := by
  unfold chk
  constructor
  · intro e
    split at e
    · omega
    split at e
    · omega
    split at e
    · omega
    rename_i h1 h2 h3
    split at e
    · omega
    split at e
    · rename_i h4 h5
      obtain ⟨⟨g1, g2, g3⟩, _⟩ := chkB_iff.mp (Decidable.not_not.mp h3)
      exact ⟨by omega, by omega, by omega, g1, g2, g3, by omega, h5⟩
    · omega
  · intro o
    have h3 : chkB h.p none h.bs = 0 := chkB_iff.mpr ⟨⟨o.asc, o.pos, o.rng⟩, fun j hj => (Option.not_mem_none j hj).elim⟩
    have h1 := o.p0
    have h2 := o.p8
    have h4 := o.len
    have h5 := o.tot
    rw [if_neg (by omega), if_neg (by omega), if_neg (by omega), if_neg (by omega), if_pos o.fits]
/-- Values that can be counted. -/
def Val (vs : List Int) : Prop := ∀ v ∈ vs, 0 ≤ v ∧ v ≤ 1099511627776
theorem ixI_range {p v : Int} (h : 0 ≤ v ∧ v ≤ 1099511627776) : 0 ≤ ixI p v ∧ ixI p v ≤ topI p := by
  have h1 := ix_top (p := p.toNat) (v := v.toNat) (by omega)
  unfold ixI topI
  omega
theorem ixI_in {p v : Int} (h : 0 ≤ v ∧ v ≤ 1099511627776) : loI p (ixI p v) ≤ v ∧ v ≤ hiI p (ixI p v) := by
  have h1 := (ix_iff (p := p.toNat) (v := v.toNat) (i := ix p.toNat v.toNat) (by omega)).mp rfl
  unfold ixI loI hiI
  rw [Int.toNat_natCast]
  omega
theorem ixI_mono {p v w : Int} (h : v ≤ w) : ixI p v ≤ ixI p w := by
  have h1 := ix_mono (p := p.toNat) (v := v.toNat) (w := w.toNat) (by omega)
  unfold ixI
  omega
theorem V_erase (F : Int → Int) {ks : List Int} {k : Int} (h : k ∈ ks) : V F ks = F k + V F (ks.erase k) := by
  rw [V_perm F (List.perm_cons_erase h)]
  rfl
theorem W_low {p mn : Int} {b : B} {r : List B} (ha : Asc (b :: r)) : W (fun j => if j = b.1 then mn else loI p j) (b :: r) = b.2 * mn + W (loI p) r := by
  have e : W (fun j => if j = b.1 then mn else loI p j) r = W (loI p) r := W_congr fun y hy => by
    have := (asc_cons.mp ha).1 y hy
    show (if y.1 = b.1 then mn else loI p y.1) = loI p y.1
    rw [if_neg (by omega)]
  show b.2 * (if b.1 = b.1 then mn else loI p b.1) + _ = _
  rw [if_pos rfl, e]
theorem W_high {p mx : Int} : ∀ {b : B} {r : List B}, Asc (b :: r) → W (fun j => if j = (lastB b r).1 then mx else hiI p j) (b :: r) = mostT p mx b r
  | b, [], _ => by
    show b.2 * (if b.1 = b.1 then mx else hiI p b.1) + 0 = b.2 * mx
    rw [if_pos rfl]
    omega
  | b, c :: r, ha => by
    obtain ⟨h1, h2⟩ := asc_cons.mp ha
    have ih := W_high (p := p) (mx := mx) h2
    have h3 := h1 _ (lastB_mem c r)
    show b.2 * (if b.1 = (lastB c r).1 then mx else hiI p b.1) + W _ (c :: r) = b.2 * hiI p b.1 + mostT p mx c r
    rw [if_neg (by omega), ← ih]
    rfl
/-- The histogram of values fits. -/
theorem Of.fits {p : Int} {vs : List Int} {h : H} (o : Of p vs h) (hv : Val vs) : fitsH h (Lh.tot h.bs) = true := by
  rw [o.tot]
  unfold fitsH
  by_cases e : vs = []
  · have h1 := o.no e
    have h2 := o.hc
    have h3 := o.hs
    subst e
    simp only [List.length_nil, V] at *
    rw [if_pos (by omega), decide_eq_true_eq]
    exact ⟨by omega, h3, h1⟩
  have hl : 0 < vs.length := List.length_pos_iff.mpr e
  rw [if_neg (by omega)]
  obtain ⟨m1, m2⟩ := o.mn e
  obtain ⟨x1, x2⟩ := o.mx e
  have v1 := hv _ m1
  have v2 := hv _ x1
  have v3 := m2 _ x1
  rw [if_neg (by rw [o.hc]; omega)]
  have ha := o.asc
  obtain ⟨bm, hbm, em⟩ := o.key2 m1
  obtain ⟨bx, hbx, ex⟩ := o.key2 x1
  have hk := fun b (hb : b ∈ h.bs) => o.key hb
  have hW := fun F => W_of F o.asc o.hcf
  rw [← o.hp] at em ex hk hW
  cases hbs : h.bs with
  | nil => rw [hbs] at hbm; exact (List.not_mem_nil hbm).elim
  | cons b r =>
  rw [hbs] at hbm hbx ha hk hW
  have i1 : ixI h.p h.mn = b.1 := by
    obtain ⟨v, hv1, e1⟩ := hk b List.mem_cons_self
    have := ixI_mono (p := h.p) (m2 v hv1)
    have : b.1 ≤ bm.1 := by
      rcases List.mem_cons.mp hbm with e | e
      · rw [e]; exact Int.le_refl _
      · have := (asc_cons.mp ha).1 _ e; omega
    omega
  have i2 : ixI h.p h.mx = (lastB b r).1 := by
    obtain ⟨v, hv1, e1⟩ := hk _ (lastB_mem b r)
    have := ixI_mono (p := h.p) (x2 v hv1)
    have := lastB_max ha _ hbx
    omega
  simp only
  rw [if_neg (by rw [i1, i2]; simp)]
  by_cases h1 : (vs.length : Int) = 1
  · rw [if_pos h1, decide_eq_true_eq]
    obtain ⟨v, rfl⟩ : ∃ v, vs = [v] := List.length_eq_one_iff.mp (by omega)
    rw [List.mem_singleton] at m1 x1
    have h2 := o.hs
    simp only [V] at h2
    omega
  rw [if_neg h1, decide_eq_true_eq]
  have hsum := o.hs
  constructor
  · have g1 := hW (fun j => if j = b.1 then h.mn else loI h.p j)
    rw [W_low ha, V_map, V_erase _ x1, i2] at g1
    rw [V_erase _ x1] at hsum
    have g2 : V (fun k => if ixI h.p k = b.1 then h.mn else loI h.p (ixI h.p k)) (vs.erase h.mx) ≤ V (fun v => v) (vs.erase h.mx) := by
      refine V_le fun k hk => ?_
      have hk := List.mem_of_mem_erase hk
      show (if ixI h.p k = b.1 then h.mn else loI h.p (ixI h.p k)) ≤ k
      split
      · exact m2 k hk
      · exact (ixI_in (hv k hk)).1
    have g3 : lastLow h.p h.mn b r = if (lastB b r).1 = b.1 then h.mn else loI h.p (lastB b r).1 := by
      unfold lastLow
      cases r with
      | nil => exact (if_pos rfl).trans (if_pos rfl).symm
      | cons c r =>
        have := (asc_cons.mp ha).1 _ (lastB_mem c r)
        rw [if_neg (by simp), if_neg]
        show (lastB c r).1 ≠ b.1
        omega
    unfold leastH
    rw [g3]
    omega
  · have g1 := hW (fun j => if j = (lastB b r).1 then h.mx else hiI h.p j)
    rw [W_high ha, V_map, V_erase _ m1, i1] at g1
    rw [V_erase _ m1] at hsum
    have g2 : V (fun v => v) (vs.erase h.mn) ≤ V (fun k => if ixI h.p k = (lastB b r).1 then h.mx else hiI h.p (ixI h.p k)) (vs.erase h.mn) := by
      refine V_le fun k hk => ?_
      have hk := List.mem_of_mem_erase hk
      show k ≤ (if ixI h.p k = (lastB b r).1 then h.mx else hiI h.p (ixI h.p k))
      split
      · exact x2 k hk
      · exact (ixI_in (hv k hk)).2
    have g3 : firstHigh h.p h.mx b r = if b.1 = (lastB b r).1 then h.mx else hiI h.p b.1 := by
      unfold firstHigh
      cases r with
      | nil => exact (if_pos rfl).trans (if_pos rfl).symm
      | cons c r =>
        have := (asc_cons.mp ha).1 _ (lastB_mem c r)
        rw [if_neg (by simp), if_neg]
        show b.1 ≠ (lastB c r).1
        omega
    unfold mostH
    rw [g3]
    omega
theorem Of.ok {p : Int} {vs : List Int} {h : H} (o : Of p vs h) (h0 : 0 ≤ p) (h8 : p ≤ 8) (hv : Val vs) (hn : vs.length ≤ 1048576) (hl : h.bs.length ≤ 500) : Ok h := by
  have ht := o.tot
  refine ⟨by rw [o.hp]; exact h0, by rw [o.hp]; exact h8, hl, o.asc, o.pos, fun b hb => ?_, by omega, o.fits hv⟩
  obtain ⟨v, hv1, e⟩ := o.key hb
  have h1 := ixI_range (p := p) (hv v hv1)
  have h2 := cf_mem o.pos hb
  rw [o.hcf] at h2
  have h3 : V (one b.1) (vs.map (ixI p)) ≤ V (fun _ => 1) (vs.map (ixI p)) := V_le fun k hk => by unfold one; split <;> omega
  rw [V_const, List.length_map] at h3
  rw [o.hp]
  omega
end Go.Proofs.Ytffnopdpndpngaa.Lh
namespace Go.Proofs.Ytffnopdpndpngaa.Lh
def limH (h : H) : H × Nat := if 1048576 < h.c ∨ 500 < h.bs.length then (zeroH, 4) else (h, 0)
def addO (h : H) (v n : Int) : H × Nat := if chk h ≠ 0 then (zeroH, 1) else if v < 0 ∨ 1099511627776 < v ∨ n < 0 then (zeroH, 2) else if 1048576 < n then (zeroH, 4) else if n = 0 then (h, 0) else limH (addH h v n)
def redO (h : H) (q : Int) : H × Nat := if chk h ≠ 0 then (zeroH, 1) else if q < 0 ∨ h.p < q then (zeroH, 2) else (redH h q, 0)
def mrgO (a b : H) : H × Nat := if chk a ≠ 0 ∨ chk b ≠ 0 then (zeroH, 1) else if a.c = 0 ∨ b.c = 0 then (mrgH (redH a (min a.p b.p)) (redH b (min a.p b.p)), 0) else limH (mrgH (redH a (min a.p b.p)) (redH b (min a.p b.p)))
/-- The index of the bucket of a rank. -/
def qB : Int → B → List B → Int
  | _, b, [] => b.1
  | n, b, c :: r => if n ≤ b.2 then b.1 else qB (n - b.2) c r
def lowH (h : H) (i : Int) : Int := max (loI h.p i) h.mn
def highH (h : H) (i : Int) : Int := min (hiI h.p i) h.mx
def sureH (h : H) (x : Int) : Int := W (fun j => if highH h j ≤ x then 1 else 0) h.bs
def possH (h : H) (x : Int) : Int := W (fun j => if lowH h j ≤ x then 1 else 0) h.bs
def lt (i : Int) : Int → Int := fun j => if j < i then 1 else 0
def le (i : Int) : Int → Int := fun j => if j ≤ i then 1 else 0
theorem Of.addO {p : Int} {vs : List Int} {h : H} (o : Of p vs h) (h0 : 0 ≤ p) (h8 : p ≤ 8) (hv : Val vs) (hn : vs.length < 500) {v : Int} (hv2 : 0 ≤ v ∧ v ≤ 1099511627776) : Lh.addO h v 1 = (addH h v 1, 0) ∧ Of p (vs ++ [v]) (addH h v 1) := by
  have hl := o.len
  have ho := o.ok h0 h8 hv (by omega) (by omega)
  have h2 := o.add v
  refine ⟨?_, h2⟩
  unfold Lh.addO limH
  have h3 := h2.len
  have h4 := h2.hc
  rw [List.length_append, List.length_singleton] at h3 h4
  rw [if_neg (by rw [chk_iff.mpr ho]; simp), if_neg (by omega), if_neg (by omega), if_neg (by omega), if_neg (by omega)]
theorem Val.append {a b : List Int} (h1 : Val a) (h2 : Val b) : Val (a ++ b) := fun v hv => (List.mem_append.mp hv).elim (h1 v) (h2 v)
theorem Of.redO {p q : Int} {vs : List Int} {h : H} (o : Of p vs h) (h0 : 0 ≤ q) (hq : q ≤ p) (h8 : p ≤ 8) (hv : Val vs) (hn : vs.length ≤ 500) : Lh.redO h q = (redH h q, 0) ∧ Of q vs (redH h q) := by
  have hl := o.len
  have ho := o.ok (by omega) h8 hv (by omega) (by omega)
  have hp := o.hp
  refine ⟨?_, o.red h0 hq⟩
  unfold Lh.redO
  rw [if_neg (by rw [chk_iff.mpr ho]; simp), if_neg (by omega)]
theorem Of.mrgO {p q : Int} {vs ws : List Int} {a b : H} (o : Of p vs a) (u : Of q ws b) (hp : 0 ≤ p ∧ p ≤ 8) (hq : 0 ≤ q ∧ q ≤ 8) (hv : Val vs) (hw : Val ws) (hn : vs.length + ws.length ≤ 500) : ∃ h, Lh.mrgO a b = (h, 0) ∧ Of (min p q) (vs ++ ws) h := by
  have l1 := o.len
  have l2 := u.len
  have o1 := o.ok hp.1 hp.2 hv (by omega) (by omega)
  have o2 := u.ok hq.1 hq.2 hw (by omega) (by omega)
  have hm := min_le2 p q
  have r1 := o.red (q := min p q) (by omega) (by omega)
  have r2 := u.red (q := min p q) (by omega) (by omega)
  have m := r1.mrg r2
  refine ⟨mrgH (redH a (min p q)) (redH b (min p q)), ?_, m⟩
  unfold Lh.mrgO limH
  have h3 := m.len
  have h4 := m.hc
  rw [List.length_append] at h3 h4
  rw [if_neg (by rw [chk_iff.mpr o1, chk_iff.mpr o2]; simp), o.hp, u.hp]
  split
  · rfl
  · rw [if_neg (by omega)]
theorem W_nonneg {F : Int → Int} (hF : ∀ j, 0 ≤ F j) : ∀ {l : List B}, Pos l → 0 ≤ W F l
  | [], _ => Int.le_refl _
  | b :: r, h => by
    obtain ⟨h1, h2⟩ := pos_cons.mp h
    have h3 := W_nonneg hF h2
    have h4 := Int.mul_nonneg (show (0 : Int) ≤ b.2 by omega) (hF b.1)
    simp only [W]
    omega
theorem lt_nonneg (i j : Int) : 0 ≤ lt i j := by unfold lt; split <;> omega
theorem le_nonneg (i j : Int) : 0 ≤ le i j := by unfold le; split <;> omega
theorem le_one (i j : Int) : le i j ≤ 1 := by unfold le; split <;> omega
/-- What the bucket of a rank is. -/
theorem qB_spec : ∀ {n : Int} {b : B} {r : List B}, Asc (b :: r) → Pos (b :: r) → 1 ≤ n → n ≤ tot (b :: r) →
    (∃ x ∈ b :: r, x.1 = qB n b r) ∧ W (lt (qB n b r)) (b :: r) < n ∧ n ≤ W (le (qB n b r)) (b :: r)
  | n, b, [], ha, hp, h1, h2 => by
    refine ⟨⟨b, List.mem_cons_self, rfl⟩, ?_, ?_⟩
    · show b.2 * lt b.1 b.1 + 0 < n
      have : lt b.1 b.1 = 0 := by unfold lt; rw [if_neg (by omega)]
      rw [this]; omega
    · show n ≤ b.2 * le b.1 b.1 + 0
      have : le b.1 b.1 = 1 := by unfold le; rw [if_pos (by omega)]
      rw [this]
      unfold tot at h2
      simp only [W] at h2
      omega
  | n, b, c :: r, ha, hp, h1, h2 => by
    obtain ⟨a1, a2⟩ := asc_cons.mp ha
    obtain ⟨p1, p2⟩ := pos_cons.mp hp
    by_cases h : n ≤ b.2
    · have e : qB n b (c :: r) = b.1 := if_pos h
      rw [e]
      refine ⟨⟨b, List.mem_cons_self, rfl⟩, ?_, ?_⟩
      · rw [W_zero fun y hy => ?_]
        · omega
        · unfold lt
          rw [if_neg]
          rcases List.mem_cons.mp hy with e | hy
          · rw [e]; omega
          · have := a1 y hy
            omega
      · show n ≤ b.2 * le b.1 b.1 + W (le b.1) (c :: r)
        have h3 : le b.1 b.1 = 1 := by unfold le; rw [if_pos (by omega)]
        have h4 := W_nonneg (le_nonneg b.1) p2
        rw [h3]
        omega
    · have e : qB n b (c :: r) = qB (n - b.2) c r := if_neg h
      have h3 : tot (b :: c :: r) = b.2 + tot (c :: r) := by
        show b.2 * 1 + W _ (c :: r) = _
        rw [Int.mul_one]
        rfl
      obtain ⟨⟨x, hx, ex⟩, g1, g2⟩ := qB_spec (n := n - b.2) a2 p2 (by omega) (by omega)
      rw [e]
      have h4 := a1 x hx
      refine ⟨⟨x, List.mem_cons_of_mem _ hx, ex⟩, ?_, ?_⟩
      · show b.2 * lt (qB (n - b.2) c r) b.1 + W _ (c :: r) < n
        have : lt (qB (n - b.2) c r) b.1 = 1 := by unfold lt; rw [if_pos (by omega)]
        rw [this]; omega
      · show n ≤ b.2 * le (qB (n - b.2) c r) b.1 + W _ (c :: r)
        have : le (qB (n - b.2) c r) b.1 = 1 := by unfold le; rw [if_pos (by omega)]
        rw [this]; omega
theorem V_ge {F : Int → Int} (hF : ∀ k, 0 ≤ F k) : ∀ ks : List Int, 0 ≤ V F ks
  | [] => Int.le_refl _
  | k :: r => by
    have := V_ge hF r
    have := hF k
    simp only [V]
    omega
/-- The value of a rank lies in the bucket of this rank. -/
theorem rank_key {p : Int} {L : List Int} (hs : L.Pairwise fun a b => a ≤ b) {n : Nat} (h1 : 1 ≤ n) {x : Int} (hx : L[n - 1]? = some x) {i : Int} (h2 : V (lt i) (L.map (ixI p)) < n) (h3 : (n : Int) ≤ V (le i) (L.map (ixI p))) : ixI p x = i := by
  obtain ⟨hn, ex⟩ := List.getElem?_eq_some_iff.mp hx
  rcases Int.lt_trichotomy (ixI p x) i with h | h | h
  · exfalso
    have e : L = L.take n ++ L.drop n := (List.take_append_drop n L).symm
    rw [e, List.map_append, V_append] at h2
    have h4 := V_ge (lt_nonneg i) ((L.drop n).map (ixI p))
    have h5 : V (lt i) ((L.take n).map (ixI p)) = n := by
      rw [V_map, V_congr (G := fun _ => 1) fun k hk => ?_, V_const, List.length_take]
      · omega
      · obtain ⟨m, hm, em⟩ := List.mem_iff_getElem.mp hk
        rw [List.length_take] at hm
        rw [List.getElem_take] at em
        have h6 : k ≤ x := by
          by_cases e2 : m = n - 1
          · subst e2; omega
          · have := List.pairwise_iff_getElem.mp hs m (n - 1) (by omega) hn (by omega)
            omega
        have h7 := ixI_mono (p := p) h6
        unfold lt
        rw [if_pos (by omega)]
    omega
  · exact h
  · exfalso
    have e : L = L.take (n - 1) ++ L.drop (n - 1) := (List.take_append_drop (n - 1) L).symm
    rw [e, List.map_append, V_append] at h3
    have h4 : V (le i) ((L.take (n - 1)).map (ixI p)) ≤ V (fun _ => 1) ((L.take (n - 1)).map (ixI p)) := V_le fun k _ => le_one i k
    rw [V_const, List.length_map, List.length_take] at h4
    have h5 : V (le i) ((L.drop (n - 1)).map (ixI p)) = V (fun _ => 0) ((L.drop (n - 1)).map (ixI p)) := V_congr fun k hk => by
      obtain ⟨w, hw, ew⟩ := List.mem_map.mp hk
      obtain ⟨m, hm, em⟩ := List.mem_iff_getElem.mp hw
      rw [List.length_drop] at hm
      rw [List.getElem_drop] at em
      have h6 : x ≤ w := by
        by_cases e2 : m = 0
        · subst e2; simp only [Nat.add_zero] at em; omega
        · have := List.pairwise_iff_getElem.mp hs (n - 1) (n - 1 + m) hn (by omega) (by omega)
          omega
      have h7 := ixI_mono (p := p) h6
      unfold le
      rw [if_neg (by omega)]
    have h6 : ∀ ks : List Int, V (fun _ => 0) ks = 0 := fun ks => by
      induction ks with
      | nil => rfl
      | cons k r ih => simp only [V, ih]; rfl
    rw [h6] at h5
    omega
/-- The bucket of a rank (0 without buckets). -/
def qI (n : Int) : List B → Int
  | [] => 0
  | b :: r => qB n b r
theorem qI_spec {n : Int} {l : List B} (ha : Asc l) (hp : Pos l) (h1 : 1 ≤ n) (h2 : n ≤ tot l) : (∃ x ∈ l, x.1 = qI n l) ∧ W (lt (qI n l)) l < n ∧ n ≤ W (le (qI n l)) l := by
  cases l with
  | nil => simp [tot, W] at h2; omega
  | cons b r => exact qB_spec ha hp h1 h2
theorem Of.rank {p : Int} {vs L : List Int} {h : H} (o : Of p vs h) (hL : vs.Perm L) (hs : L.Pairwise fun a b => a ≤ b) {n : Nat} (h1 : 1 ≤ n) {x : Int} (hx : L[n - 1]? = some x) : ixI p x = qI n h.bs := by
  have q := o.perm hL
  have hn := (List.getElem?_eq_some_iff.mp hx).1
  obtain ⟨_, g1, g2⟩ := qI_spec (n := n) q.asc q.pos (by omega) (by rw [q.tot]; omega)
  rw [W_of _ q.asc q.hcf] at g1 g2
  exact rank_key hs h1 hx g1 g2
/-- P12.3, quantiles. -/
theorem Of.quantile {p : Int} {vs L : List Int} {h : H} (o : Of p vs h) (hv : Val vs) (hL : vs.Perm L) (hs : L.Pairwise fun a b => a ≤ b) {n : Nat} (h1 : 1 ≤ n) {x : Int} (hx : L[n - 1]? = some x) : lowH h (qI n h.bs) ≤ x ∧ x ≤ highH h (qI n h.bs) := by
  have hm : x ∈ vs := hL.mem_iff.mpr (List.mem_of_getElem? hx)
  have ne : vs ≠ [] := List.ne_nil_of_mem hm
  have h2 := o.rank hL hs h1 hx
  have h3 := ixI_in (p := p) (hv x hm)
  have h4 := (o.mn ne).2 x hm
  have h5 := (o.mx ne).2 x hm
  unfold lowH highH
  rw [← h2, o.hp]
  have h6 := max_le2 (loI p (ixI p x)) h.mn
  have h7 := min_le2 (hiI p (ixI p x)) h.mx
  omega
/-- P12.3, numbers. -/
theorem Of.numbers {p : Int} {vs : List Int} {h : H} (o : Of p vs h) (hv : Val vs) (x : Int) : sureH h x ≤ V (fun v => if v ≤ x then 1 else 0) vs ∧ V (fun v => if v ≤ x then 1 else 0) vs ≤ possH h x := by
  unfold sureH possH
  rw [W_of _ o.asc o.hcf, W_of _ o.asc o.hcf, V_map, V_map]
  constructor
  · refine V_le fun v hm => ?_
    have ne : vs ≠ [] := List.ne_nil_of_mem hm
    have h3 := ixI_in (p := p) (hv v hm)
    have h5 := (o.mx ne).2 v hm
    have h7 := min_le2 (hiI p (ixI p v)) h.mx
    unfold highH
    rw [o.hp]
    split <;> split <;> omega
  · refine V_le fun v hm => ?_
    have ne : vs ≠ [] := List.ne_nil_of_mem hm
    have h3 := ixI_in (p := p) (hv v hm)
    have h5 := (o.mn ne).2 v hm
    have h7 := max_le2 (loI p (ixI p v)) h.mn
    unfold lowH
    rw [o.hp]
    split <;> split <;> omega
theorem loI_mono {p i j : Int} (h : i ≤ j) : loI p i ≤ loI p j := by
  have := lo_mono (p := p.toNat) (i := i.toNat) (j := j.toNat) (by omega)
  unfold loI
  omega
theorem hiI_mono {p i j : Int} (h0 : 0 ≤ i) (h : i ≤ j) (ht : j ≤ topI p) : hiI p i ≤ hiI p j := by
  by_cases e : i = j
  · rw [e]; exact Int.le_refl _
  · have h1 := hi_succ (p := p.toNat) (i := i.toNat) (by unfold topI at ht; omega)
    have h2 := lo_mono (p := p.toNat) (i := i.toNat + 1) (j := j.toNat) (by omega)
    have h3 := hi_ge (p := p.toNat) (i := j.toNat) (by unfold topI at ht; omega)
    unfold hiI
    omega
/-- P12.5: the bounds become at most wider. -/
theorem Of.wider {p q : Int} {vs L : List Int} {h g : H} (o : Of p vs h) (u : Of q vs g) (h0 : 0 ≤ q) (hq : q ≤ p) (hv : Val vs) (hL : vs.Perm L) (hs : L.Pairwise fun a b => a ≤ b) {n : Nat} (h1 : 1 ≤ n) {x : Int} (hx : L[n - 1]? = some x) : lowH g (qI n g.bs) ≤ lowH h (qI n h.bs) ∧ highH h (qI n h.bs) ≤ highH g (qI n g.bs) := by
  have hm : x ∈ vs := hL.mem_iff.mpr (List.mem_of_getElem? hx)
  have ne : vs ≠ [] := List.ne_nil_of_mem hm
  have e1 := o.rank hL hs h1 hx
  have e2 := u.rank hL hs h1 hx
  have h3 := ixI_in (p := p) (hv x hm)
  have h4 : g.mn = h.mn := by
    have := (o.mn ne).2 _ (u.mn ne).1
    have := (u.mn ne).2 _ (o.mn ne).1
    omega
  have h5 : g.mx = h.mx := by
    have := (o.mx ne).2 _ (u.mx ne).1
    have := (u.mx ne).2 _ (o.mx ne).1
    omega
  have k0 := ixI_range (p := p) (hv x hm)
  have kl : ixI q (loI p (ixI p x)) = ixI q x := ixI_low h0 hq
  have kh : ixI q (hiI p (ixI p x)) = ixI q x := by
    have e : ixI p (hiI p (ixI p x)) = ixI p x := by
      have h9 := hi_ge (p := p.toNat) (i := ix p.toNat x.toNat) (by unfold ixI topI at k0; omega)
      have h8 := (ix_iff (p := p.toNat) (v := hi p.toNat (ix p.toNat x.toNat)) (i := ix p.toNat x.toNat) (by unfold hi; omega)).mpr ⟨h9, Nat.le_refl _⟩
      unfold ixI hiI
      rw [Int.toNat_natCast, Int.toNat_natCast, h8]
    have := ixI_low (v := hiI p (ixI p x)) h0 hq
    rw [e, kl] at this
    exact this.symm
  have hl : loI q (ixI q x) ≤ loI p (ixI p x) := by
    have a : 0 ≤ loI p (ixI p x) := by unfold loI; omega
    have := (ixI_in (p := q) (v := loI p (ixI p x)) ⟨a, by have := (hv x hm).2; omega⟩).1
    rw [kl] at this
    exact this
  have hh : hiI p (ixI p x) ≤ hiI q (ixI q x) := by
    have a : hiI p (ixI p x) ≤ 1099511627776 := by unfold hiI hi; omega
    have := (ixI_in (p := q) (v := hiI p (ixI p x)) ⟨by have := (hv x hm).1; omega, a⟩).2
    rw [kh] at this
    exact this
  unfold lowH highH
  rw [← e1, ← e2, o.hp, u.hp, h4, h5]
  have h6 := max_le2 (loI p (ixI p x)) h.mn
  have h7 := min_le2 (hiI p (ixI p x)) h.mx
  have h8 := max_le2 (loI q (ixI q x)) h.mn
  have h9 := min_le2 (hiI q (ixI q x)) h.mx
  omega
end Go.Proofs.Ytffnopdpndpngaa.Lh
namespace Go.Proofs.Ytffnopdpndpngaa.Lh
structure Fit (h : H) : Prop where
  tot : h.c = Lh.tot h.bs
  mn0 : 0 ≤ h.mn
  le : h.mn ≤ h.mx
  mx : h.mx ≤ 1099511627776
  fst : ∀ b ∈ h.bs, ixI h.p h.mn ≤ b.1
  lst : ∀ b ∈ h.bs, b.1 ≤ ixI h.p h.mx
theorem Ok.count {h : H} (o : Ok h) : h.c = Lh.tot h.bs := by
  have h1 := o.fits
  unfold fitsH at h1
  split at h1
  · rename_i e
    rw [decide_eq_true_eq] at h1
    omega
  · split at h1
    · exact (Bool.false_ne_true h1).elim
    · omega
theorem Ok.fit {h : H} (o : Ok h) (hc : h.c ≠ 0) : Fit h := by
  have h0 := o.count
  have h1 := o.fits
  unfold fitsH at h1
  rw [if_neg (by omega)] at h1
  by_cases h2 : h.mn < 0 ∨ 1099511627776 < h.mx ∨ h.mx < h.mn ∨ h.c ≠ Lh.tot h.bs
  · rw [if_pos h2] at h1
    exact (Bool.false_ne_true h1).elim
  rw [if_neg h2] at h1
  have ha := o.asc
  cases hb : h.bs with
  | nil =>
    rw [hb] at h1
    exact (Bool.false_ne_true h1).elim
  | cons b r =>
    rw [hb] at h1 ha
    simp only at h1
    by_cases h3 : ixI h.p h.mn ≠ b.1 ∨ ixI h.p h.mx ≠ (lastB b r).1
    · rw [if_pos h3] at h1
      exact (Bool.false_ne_true h1).elim
    have h4 : ixI h.p h.mn = b.1 := by omega
    have h5 : ixI h.p h.mx = (lastB b r).1 := by omega
    refine ⟨h0, by omega, by omega, by omega, fun x hx => ?_, fun x hx => ?_⟩
    · rw [h4]
      rw [hb] at hx
      rcases List.mem_cons.mp hx with e | hx
      · rw [e]; exact Int.le_refl _
      · have := (asc_cons.mp ha).1 x hx
        omega
    · rw [h5]
      rw [hb] at hx
      exact lastB_max ha x hx
theorem lowH_mono {h : H} {i j : Int} (e : i ≤ j) : lowH h i ≤ lowH h j := by
  have h1 := loI_mono (p := h.p) e
  have h2 := max_le2 (loI h.p i) h.mn
  have h3 := max_le2 (loI h.p j) h.mn
  unfold lowH
  omega
theorem highH_mono {h : H} {i j : Int} (h0 : 0 ≤ i) (e : i ≤ j) (ht : j ≤ topI h.p) : highH h i ≤ highH h j := by
  have h1 := hiI_mono h0 e ht
  have h2 := min_le2 (hiI h.p i) h.mx
  have h3 := min_le2 (hiI h.p j) h.mx
  unfold highH
  omega
theorem low_le_high {h : H} (o : Ok h) (hc : h.c ≠ 0) {b : B} (hb : b ∈ h.bs) : lowH h b.1 ≤ highH h b.1 := by
  have f := o.fit hc
  have r := o.rng b hb
  have h1 := f.fst b hb
  have h2 := f.lst b hb
  have h3 := ixI_in (p := h.p) (v := h.mn) ⟨f.mn0, by have := f.le; have := f.mx; omega⟩
  have h4 := ixI_in (p := h.p) (v := h.mx) ⟨by have := f.mn0; have := f.le; omega, f.mx⟩
  have h5 := ixI_range (p := h.p) (v := h.mn) ⟨f.mn0, by have := f.le; have := f.mx; omega⟩
  have h6 := hiI_mono (p := h.p) h5.1 h1 r.2.1
  have h7 := loI_mono (p := h.p) h2
  have h8 : loI h.p b.1 ≤ hiI h.p b.1 := by
    have := hi_ge (p := h.p.toNat) (i := b.1.toNat) (by have := r.2.1; unfold topI at this; omega)
    unfold loI hiI
    omega
  have h9 := max_le2 (loI h.p b.1) h.mn
  have g1 := min_le2 (hiI h.p b.1) h.mx
  have g2 := f.le
  unfold lowH highH
  omega
/-- P12.6: the bucket of a rank ascends with the rank. -/
theorem qI_mono {l : List B} (ha : Asc l) (hp : Pos l) {n m : Int} (h1 : 1 ≤ n) (h : n ≤ m) (h2 : m ≤ tot l) : qI n l ≤ qI m l := by
  obtain ⟨_, a1, a2⟩ := qI_spec ha hp h1 (by omega)
  obtain ⟨_, b1, b2⟩ := qI_spec ha hp (show 1 ≤ m by omega) h2
  by_cases e : qI n l ≤ qI m l
  · exact e
  · exfalso
    have h3 : W (le (qI m l)) l ≤ W (lt (qI n l)) l := W_le hp fun b _ => by
      unfold le lt
      split <;> split <;> omega
    omega
theorem ascends {h : H} (o : Ok h) (hc : h.c ≠ 0) {n m : Int} (h1 : 1 ≤ n) (h2 : n ≤ m) (h3 : m ≤ h.c) :
    lowH h (qI n h.bs) ≤ lowH h (qI m h.bs) ∧ highH h (qI n h.bs) ≤ highH h (qI m h.bs) := by
  have ht := o.count
  have h4 := qI_mono o.asc o.pos h1 h2 (by omega)
  obtain ⟨⟨x, hx, ex⟩, _⟩ := qI_spec o.asc o.pos h1 (show n ≤ tot h.bs by omega)
  obtain ⟨⟨y, hy, ey⟩, _⟩ := qI_spec o.asc o.pos (show 1 ≤ m by omega) (show m ≤ tot h.bs by omega)
  refine ⟨lowH_mono h4, highH_mono ?_ h4 ?_⟩
  · rw [← ex]; exact (o.rng x hx).1
  · rw [← ey]; exact (o.rng y hy).2.1
/-- P12.6: Quantile and Rank agree. -/
theorem agrees {h : H} (o : Ok h) (hc : h.c ≠ 0) {n : Int} (h1 : 1 ≤ n) (h3 : n ≤ h.c) :
    lowH h (qI n h.bs) ≤ highH h (qI n h.bs) ∧ n ≤ sureH h (highH h (qI n h.bs)) ∧ possH h (lowH h (qI n h.bs) - 1) < n := by
  have ht := o.count
  obtain ⟨⟨x, hx, ex⟩, g1, g2⟩ := qI_spec o.asc o.pos h1 (show n ≤ tot h.bs by omega)
  have rx := o.rng x hx
  refine ⟨?_, ?_, ?_⟩
  · rw [← ex]; exact low_le_high o hc hx
  · refine Int.le_trans g2 (W_le o.pos fun b hb => ?_)
    have rb := o.rng b hb
    unfold le
    by_cases e : b.1 ≤ qI n h.bs
    · have := highH_mono (h := h) rb.1 e (by omega)
      rw [if_pos e, if_pos this]
      exact Int.le_refl _
    · rw [if_neg e]
      split <;> omega
  · refine Int.lt_of_le_of_lt (W_le o.pos fun b hb => ?_) g1
    unfold lt
    by_cases e : b.1 < qI n h.bs
    · rw [if_pos e]
      split <;> omega
    · have := lowH_mono (h := h) (show qI n h.bs ≤ b.1 by omega)
      rw [if_neg e, if_neg (by omega)]
      exact Int.le_refl _
/-- The least integer that is at least a fraction of a number. -/
def rankN (num den c : Int) : Int := max 1 (-(num * -c / den))
theorem rankN_ceil {num den c : Int} (h : 0 < den) : rankN num den c = max 1 ((num * c + den - 1) / den) := by
  unfold rankN
  congr 1
  rw [show num * -c = -(num * c) from Int.mul_neg _ _]
  generalize num * c = t
  have e1 := Int.mul_ediv_add_emod (-t) den
  have e2 := Int.emod_nonneg (-t) (show den ≠ 0 by omega)
  have e3 := Int.emod_lt_of_pos (-t) h
  generalize hm : -t % den = m at e1 e2 e3
  have e2 : 0 ≤ m := e2
  have e3 : m < den := e3
  have e5 : t + den - 1 = (den - 1 - m) + den * (-(-t / den)) := by
    rw [Int.mul_neg]
    omega
  rw [e5, Int.add_mul_ediv_left _ _ (by omega), Int.ediv_eq_zero_of_lt (a := den - 1 - m) (by omega) (by omega)]
  omega
theorem rankN_in {num den c : Int} (h : 0 < den) (h0 : 0 ≤ num) (h1 : num ≤ den) (hc : 1 ≤ c) : 1 ≤ rankN num den c ∧ rankN num den c ≤ c := by
  rw [rankN_ceil h]
  have h2 : num * c ≤ den * c := Int.mul_le_mul_of_nonneg_right h1 (by omega)
  have h3 : (num * c + den - 1) / den ≤ c := by
    have : (num * c + den - 1) / den < c + 1 := by
      rw [Int.ediv_lt_iff_lt_mul h, Int.add_mul, Int.one_mul, Int.mul_comm c]
      omega
    omega
  have h4 := max_le2 1 ((num * c + den - 1) / den)
  omega
end Go.Proofs.Ytffnopdpndpngaa.Lh
namespace Go.Proofs.Ytffnopdpndpngaa.Lh
theorem W_app (F : Int → Int) : ∀ a b : List B, W F (a ++ b) = W F a + W F b
  | [], b => by simp [W]
  | x :: a, b => by
    simp only [List.cons_append, W]
    rw [W_app F a b]
    omega
theorem W_take {F : Int → Int} {l : List B} {k : Nat} (h : k < l.length) : W F (l.take (k + 1)) = W F (l.take k) + l[k].2 * F l[k].1 := by
  rw [List.take_add_one, List.getElem?_eq_getElem h, W_app]
  simp [W]
theorem pos_take {l : List B} (h : Pos l) (k : Nat) : Pos (l.take k) := fun b hb => h b (List.mem_of_mem_take hb)
theorem W_bound {F : Int → Int} {M : Int} (h0 : 0 ≤ M) : ∀ {l : List B}, Pos l → (∀ b ∈ l, 0 ≤ F b.1 ∧ F b.1 ≤ M) → 0 ≤ W F l ∧ W F l ≤ M * tot l
  | [], _, _ => ⟨Int.le_refl _, by simp [W, tot]⟩
  | b :: r, hp, hF => by
    obtain ⟨h1, h2⟩ := pos_cons.mp hp
    obtain ⟨g1, g2⟩ := W_bound h0 h2 fun y hy => hF y (List.mem_cons_of_mem _ hy)
    obtain ⟨f1, f2⟩ := hF b List.mem_cons_self
    have h3 := Int.mul_nonneg (show (0 : Int) ≤ b.2 by omega) f1
    have h4 := Int.mul_le_mul_of_nonneg_left f2 (show (0 : Int) ≤ b.2 by omega)
    have h5 : tot (b :: r) = b.2 + tot r := by unfold tot; simp only [W, Int.mul_one]
    rw [h5, Int.mul_add, Int.mul_comm M b.2]
    simp only [W]
    omega
theorem tot_take_le {l : List B} (h : Pos l) (k : Nat) : tot (l.take k) ≤ tot l := by
  have h1 := W_app (fun _ => 1) (l.take k) (l.drop k)
  rw [List.take_append_drop] at h1
  have h2 := W_nonneg (F := fun _ => 1) (fun _ => by omega) (l := l.drop k) fun b hb => h b (List.mem_of_mem_drop hb)
  unfold tot
  omega
theorem tot_nonneg {l : List B} (h : Pos l) : 0 ≤ tot l := W_nonneg (fun _ => by omega) h
/-- What a partial sum is bounded by: all values at most 2^40, at most 2^20 of them. -/
theorem W_small {F : Int → Int} {l : List B} (hp : Pos l) (ht : tot l ≤ 1048576) (hF : ∀ b ∈ l, 0 ≤ F b.1 ∧ F b.1 ≤ 1099511627776) (k : Nat) : 0 ≤ W F (l.take k) ∧ W F (l.take k) ≤ 1152921504606846976 := by
  obtain ⟨h1, h2⟩ := W_bound (M := 1099511627776) (by omega) (pos_take hp k) fun b hb => hF b (List.mem_of_mem_take hb)
  have h3 := tot_take_le hp k
  omega
theorem W_step {F : Int → Int} {l : List B} (hp : Pos l) (ht : tot l ≤ 1048576) (hF : ∀ b ∈ l, 0 ≤ F b.1 ∧ F b.1 ≤ 1099511627776) {k : Nat} (h : k < l.length) : 0 ≤ F l[k].1 * l[k].2 ∧ W F (l.take k) + F l[k].1 * l[k].2 ≤ 1152921504606846976 := by
  have h1 := (W_small hp ht hF (k + 1)).2
  rw [W_take h] at h1
  have h2 := hp _ (List.getElem_mem h)
  have h3 := Int.mul_nonneg (hF _ (List.getElem_mem h)).1 (show (0 : Int) ≤ l[k].2 by omega)
  rw [Int.mul_comm (F l[k].1)] at *
  omega
theorem lastB_get : ∀ (b : B) (r : List B), lastB b r = (b :: r)[r.length]'(by simp)
  | b, [] => rfl
  | b, c :: r => by
    show lastB c r = _
    rw [lastB_get c r]
    rfl
/-- The first bucket's values are the least ones. -/
def FL (p mn : Int) (b : B) : Int → Int := fun j => if j = b.1 then mn else loI p j
/-- The last bucket's values are the greatest ones. -/
def FH (p mx : Int) (b : B) : Int → Int := fun j => if j = b.1 then mx else hiI p j
theorem leastH_W {h : H} {b : B} {r : List B} (ha : Asc (b :: r)) : leastH h b r = h.mx - h.mn + W (FL h.p h.mn b) (b :: r) + h.mn - FL h.p h.mn b (lastB b r).1 := by
  have e := W_low (p := h.p) (mn := h.mn) ha
  have g3 : lastLow h.p h.mn b r = FL h.p h.mn b (lastB b r).1 := by
    unfold lastLow FL
    cases r with
    | nil => exact (if_pos rfl).trans (if_pos rfl).symm
    | cons c r =>
      have := (asc_cons.mp ha).1 _ (lastB_mem c r)
      rw [if_neg (by simp), if_neg]
      show (lastB c r).1 ≠ b.1
      omega
  unfold leastH
  rw [g3, ← e]
  rfl
theorem mostH_W {h : H} {b : B} {r : List B} (ha : Asc (b :: r)) : mostH h b r = h.mn - h.mx + W (FH h.p h.mx (lastB b r)) (b :: r) + h.mx - FH h.p h.mx (lastB b r) b.1 := by
  have e := W_high (p := h.p) (mx := h.mx) ha
  have g3 : firstHigh h.p h.mx b r = FH h.p h.mx (lastB b r) b.1 := by
    unfold firstHigh FH
    cases r with
    | nil => exact (if_pos rfl).trans (if_pos rfl).symm
    | cons c r =>
      have := (asc_cons.mp ha).1 _ (lastB_mem c r)
      rw [if_neg (by simp), if_neg]
      show b.1 ≠ (lastB c r).1
      omega
  unfold mostH
  rw [g3, ← e]
  rfl
theorem asc_ne {l : List B} (ha : Asc l) {i j : Nat} (hi : i < l.length) (hj : j < l.length) (h : i ≠ j) : l[i].1 ≠ l[j].1 := by
  have hp := List.pairwise_iff_getElem.mp ha
  rcases Nat.lt_or_ge i j with g | g
  · have := hp i j hi hj g
    omega
  · have := hp j i hj hi (by omega)
    omega
theorem loI_le {p i : Int} (h : i ≤ topI p) : 0 ≤ loI p i ∧ loI p i ≤ 1099511627776 := by
  have := lo_top (p := p.toNat) (i := i.toNat)
  unfold topI at h
  unfold loI
  omega
theorem hiI_le (p i : Int) : 0 ≤ hiI p i ∧ hiI p i ≤ 1099511627776 := by
  unfold hiI hi
  omega
end Go.Proofs.Ytffnopdpndpngaa.Lh
