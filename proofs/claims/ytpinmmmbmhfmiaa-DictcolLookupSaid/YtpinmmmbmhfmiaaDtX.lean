/- Layer 10: where the strings of a column stand: mathematics. -/
import Derived.Test.YtpinmmmbmhfmiaaDtW
set_option linter.unusedVariables false
set_option linter.unusedSimpArgs false
namespace Go.Proofs.Ytpinmmmbmhfmiaa.Dt
open Go.RowKit Go.Sort Dc
theorem lkL_mem {x : BA} {l : List BA} {n : Nat} {i : Int} : i ∈ lkL x l n ↔ ∃ j : Nat, j < n ∧ l[j]?.getD ⟨#[]⟩ = x ∧ i = (j : Int) := by
  unfold lkL
  rw [List.mem_map]
  constructor
  · rintro ⟨j, hj, rfl⟩
    rw [List.mem_filter, List.mem_range, decide_eq_true_iff] at hj
    exact ⟨j, hj.1, hj.2, rfl⟩
  · rintro ⟨j, h1, h2, rfl⟩
    exact ⟨j, List.mem_filter.2 ⟨List.mem_range.2 h1, decide_eq_true h2⟩, rfl⟩
theorem lkL_at {x : BA} {l : List BA} {j : Nat} (hj : j < l.length) : ((j : Int) ∈ lkL x l l.length) ↔ l[j]?.getD ⟨#[]⟩ = x := by
  rw [lkL_mem]
  constructor
  · rintro ⟨k, _, h, e⟩
    rw [show j = k by omega]
    exact h
  · exact fun h => ⟨j, hj, h, rfl⟩
theorem lkL_pos {x : BA} {l : List BA} : 0 < (lkL x l l.length).length ↔ x ∈ l := by
  constructor
  · intro h
    obtain ⟨j, hj, h2, _⟩ := lkL_mem.1 (List.getElem_mem h)
    rw [at_get hj] at h2
    rw [← h2]
    exact List.getElem_mem hj
  · intro h
    obtain ⟨j, hj, e⟩ := List.mem_iff_getElem.1 h
    exact List.length_pos_of_mem ((lkL_at (x := x) hj).2 (by rw [at_get hj]; exact e))
theorem lkL_lt (x : BA) (l : List BA) (n : Nat) : (lkL x l n).Pairwise (· < ·) := by
  unfold lkL
  rw [List.pairwise_map]
  refine List.Pairwise.imp (fun h => ?_) ((List.pairwise_lt_range (n := n)).filter _)
  omega
theorem lkL_le (x : BA) (l : List BA) (n : Nat) : (lkL x l n).Pairwise (· ≤ ·) := List.Pairwise.imp (fun h => Int.le_of_lt h) (lkL_lt x l n)
/-- Where the strings of D stand in l, one after the other. -/
def allL (D l : List BA) : List Int := D.flatMap fun x => lkL x l l.length
theorem allL_snoc (D l : List BA) (x : BA) : allL (D ++ [x]) l = allL D l ++ lkL x l l.length := by unfold allL; rw [List.flatMap_append]; simp
theorem allL_more {D l : List BA} {k : Nat} (hk : k < D.length) : allL (D.take (k + 1)) l = allL (D.take k) l ++ lkL D[k] l l.length := by
  have et : D.take (k + 1) = D.take k ++ [D[k]] := by rw [List.take_add_one, List.getElem?_eq_getElem hk]; rfl
  rw [et, allL_snoc]
theorem allL_len : ∀ (D l : List BA), (allL D l).length ≤ D.length * l.length
  | [], _ => Nat.zero_le _
  | x :: D, l => by
    have h1 := allL_len D l
    have h2 := lkL_len x l l.length
    show (lkL x l l.length ++ allL D l).length ≤ _
    rw [List.length_append, List.length_cons, Nat.succ_mul]
    omega
theorem allL_mem {D l : List BA} {i : Int} : i ∈ allL D l ↔ ∃ j : Nat, j < l.length ∧ l[j]?.getD ⟨#[]⟩ ∈ D ∧ i = (j : Int) := by
  unfold allL
  rw [List.mem_flatMap]
  constructor
  · rintro ⟨x, hx, hi⟩
    obtain ⟨j, h1, h2, h3⟩ := lkL_mem.1 hi
    exact ⟨j, h1, by rw [h2]; exact hx, h3⟩
  · rintro ⟨j, h1, h2, h3⟩
    exact ⟨_, h2, lkL_mem.2 ⟨j, h1, rfl, h3⟩⟩
theorem allL_nodup : ∀ {D : List BA} (l : List BA), D.Nodup → (allL D l).Nodup
  | [], _, _ => List.Pairwise.nil
  | x :: D, l, h => by
    rw [List.nodup_cons] at h
    show (lkL x l l.length ++ allL D l).Nodup
    refine List.pairwise_append.2 ⟨List.Pairwise.imp (fun h => Int.ne_of_lt h) (lkL_lt x l l.length), allL_nodup l h.2, fun a ha b hb e => ?_⟩
    obtain ⟨j, _, h2, h3⟩ := lkL_mem.1 ha
    obtain ⟨k, _, h5, h6⟩ := allL_mem.1 hb
    have : j = k := by omega
    subst this
    rw [h2] at h5
    exact h.1 h5
def rngZ (n : Nat) : List Int := (List.range n).map fun (j : Nat) => (j : Int)
theorem rngZ_len (n : Nat) : (rngZ n).length = n := by unfold rngZ; rw [List.length_map, List.length_range]
theorem rngZ_at {n j : Nat} (h : j < n) : (rngZ n)[j]?.getD 0 = (j : Int) := by
  unfold rngZ
  rw [List.getElem?_map, List.getElem?_range h]
  rfl
theorem rngZ_lt (n : Nat) : (rngZ n).Pairwise (· < ·) := by
  unfold rngZ
  rw [List.pairwise_map]
  exact List.Pairwise.imp (fun h => by omega) (List.pairwise_lt_range (n := n))
theorem allL_perm {D l : List BA} (hn : D.Nodup) (hm : ∀ x, x ∈ D ↔ x ∈ l) : (allL D l).Perm (rngZ l.length) := by
  have hN := allL_nodup l hn
  have hR : (rngZ l.length).Nodup := List.Pairwise.imp (fun h => Int.ne_of_lt h) (rngZ_lt _)
  have hM : ∀ i, i ∈ allL D l ↔ i ∈ rngZ l.length := fun i => by
    rw [allL_mem]
    unfold rngZ
    rw [List.mem_map]
    constructor
    · rintro ⟨j, h1, _, h3⟩
      exact ⟨j, List.mem_range.2 h1, h3.symm⟩
    · rintro ⟨j, h1, h2⟩
      have h1 := List.mem_range.1 h1
      exact ⟨j, h1, by rw [at_get h1]; exact (hm _).2 (List.getElem_mem h1), h2.symm⟩
  rw [List.perm_iff_count]
  intro i
  by_cases h : i ∈ allL D l
  · rw [hN.count, hR.count, if_pos h, if_pos ((hM i).1 h)]
  · rw [hN.count, hR.count, if_neg h, if_neg fun q => h ((hM i).2 q)]
theorem allL_sorted {D l : List BA} (hn : D.Nodup) (hm : ∀ x, x ∈ D ↔ x ∈ l) : ((allL D l).mergeSort fun x y => decide (x ≤ y)) = rngZ l.length := by
  have h := List.pairwise_mergeSort (le := fun (x y : Int) => decide (x ≤ y)) (fun a b c h1 h2 => decide_eq_true (Int.le_trans (of_decide_eq_true h1) (of_decide_eq_true h2))) (fun a b => by
    rcases Int.le_total a b with h | h
    · rw [decide_eq_true h]; rfl
    · rw [decide_eq_true h, Bool.or_true]) (allL D l)
  refine List.Perm.eq_of_pairwise (le := fun (x y : Int) => x ≤ y) (fun a b _ _ h1 h2 => Int.le_antisymm h1 h2) (List.Pairwise.imp (fun h => of_decide_eq_true h) h) (List.Pairwise.imp (fun h => Int.le_of_lt h) (rngZ_lt _)) ((List.mergeSort_perm _ _).trans (allL_perm hn hm))
theorem atO_in {t : List UInt8} {l : List BA} (h : decO t = (l, 0)) {j : Nat} (hj : j < l.length) : atO t (j : Int) = (l[j], 0) := by
  unfold atO
  rw [h]
  dsimp only
  rw [if_neg (by decide), if_neg (by omega), Int.toNat_natCast, at_get hj]
theorem atO_end {t : List UInt8} {l : List BA} (h : decO t = (l, 0)) : atO t (l.length : Int) = (⟨#[]⟩, 2) := by
  unfold atO
  rw [h]
  dsimp only
  rw [if_neg (by decide), if_pos (.inr (Int.le_refl _))]
theorem look_facts {l : List BA} (h : l.length ≤ 40) : (∃ t : BA, encO l = (t.data.toList, 0) ∧ decO t.data.toList = (l, 0) ∧ t.size ≤ 1048576) ∨ encO l = ([], 4) := by
  by_cases hs : ∀ x ∈ l, x.size ≤ 1000
  · have h1 := enc_small (l := l) (by omega) hs
    exact .inl ⟨⟨(encL l).toArray⟩, by rw [mk_list]; exact h1, by rw [mk_list]; exact decO_ok h1, by rw [mk_size]; exact (encO_inv h1).2.1⟩
  · exact .inr (encO_bad fun q => hs q.2)
end Go.Proofs.Ytpinmmmbmhfmiaa.Dt
