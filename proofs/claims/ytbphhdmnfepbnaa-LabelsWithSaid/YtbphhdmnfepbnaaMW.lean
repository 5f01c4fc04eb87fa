/- Layer 5: what With does. -/
import Derived.Test.YtbphhdmnfepbnaaMK
import Derived.Test.YtbphhdmnfepbnaaSE
set_option linter.unusedVariables false
set_option linter.unusedSimpArgs false
namespace Go.Proofs.Ytbphhdmnfepbnaa.Lab
open Go.RowKit
theorem getL_cons (x : Lb) (r : List Lb) (s : ByteArray) : getL (x :: r) s = if eqS x.n s = true then x.v else getL r s := rfl
theorem getL_empty {l : List Lb} {s : ByteArray} (h : ∀ x ∈ l, eqS s x.n = false) : getL l s = ⟨#[]⟩ := by
  induction l with
  | nil => rfl
  | cons x r ih =>
    rw [getL_cons, if_neg (by rw [eqS_comm, h x (by simp)]; decide)]
    exact ih fun y hy => h y (by simp [hy])
theorem getL_hit {a b : List Lb} {n v : ByteArray} (h : ∀ x ∈ a, eqS n x.n = false) : getL (a ++ ⟨n, v⟩ :: b) n = v := by
  induction a with
  | nil =>
    show getL (⟨n, v⟩ :: b) n = v
    rw [getL_cons, if_pos (eqS_iff.2 rfl)]
  | cons x r ih =>
    show getL (x :: (r ++ ⟨n, v⟩ :: b)) n = v
    rw [getL_cons, if_neg (by rw [eqS_comm, h x (by simp)]; decide)]
    exact ih fun y hy => h y (by simp [hy])
theorem getL_miss {a b : List Lb} {n v s : ByteArray} (h : eqS n s = false) : getL (a ++ ⟨n, v⟩ :: b) s = getL (a ++ b) s := by
  induction a with
  | nil =>
    show getL (⟨n, v⟩ :: b) s = getL b s
    rw [getL_cons, if_neg (by rw [h]; decide)]
  | cons x r ih =>
    show getL (x :: (r ++ ⟨n, v⟩ :: b)) s = getL (x :: (r ++ b)) s
    rw [getL_cons, getL_cons, ih]
theorem getL_keep {n s : ByteArray} (h : eqS n s = false) : ∀ l : List Lb, getL (keepL false [n] l) s = getL l s
  | [] => rfl
  | x :: r => by
    have ih := getL_keep h r
    unfold keepL at ih ⊢
    rw [List.filter_cons, getL_cons]
    split
    · rw [getL_cons, ih]
    · rename_i h2
      have h3 : eqS n x.n = true := by simpa [hasB] using h2
      rw [ih, if_neg]
      intro h4
      rw [eqS_iff] at h3 h4
      rw [h3, h4, eqS_iff.2 rfl] at h
      cases h
/-- The label has the value. -/
theorem with_get (l : List Lb) (n v : ByteArray) : getL (withL l n v) n = v := by
  cases h : v.toList.isEmpty with
  | true =>
    rw [withL_nil h, getL_empty (drop_ne n l)]
    have h2 : v.data.toList = [] := by rw [← ByteArray.toList_eq]; exact List.isEmpty_iff.1 h
    exact (ba_ext (by rw [h2])).symm
  | false =>
    rw [withL_ins h]
    exact getL_hit fun x hx => drop_ne n l x (List.mem_of_mem_take hx)
/-- All others have theirs. -/
theorem with_other (l : List Lb) (n v s : ByteArray) (h : eqS n s = false) : getL (withL l n v) s = getL l s := by
  cases hv : v.toList.isEmpty with
  | true => rw [withL_nil hv, getL_keep h]
  | false =>
    rw [withL_ins hv]
    unfold insL
    rw [getL_miss h, List.take_append_drop, getL_keep h]
theorem keep_keep (n : ByteArray) (l : List Lb) : keepL false [n] (keepL false [n] l) = keepL false [n] l := by
  unfold keepL
  rw [List.filter_filter]
  congr 1
  funext x
  rw [Bool.and_self]
/-- Without the name it is what it was without the name. -/
theorem with_drop (l : List Lb) (n v : ByteArray) : keepL false [n] (withL l n v) = keepL false [n] l := by
  cases hv : v.toList.isEmpty with
  | true => rw [withL_nil hv, keep_keep]
  | false =>
    rw [withL_ins hv]
    have h1 : ∀ (m : List Lb) (k : Nat), keepL false [n] (insL m k ⟨n, v⟩) = keepL false [n] m := fun m k => by
      have e : eqS n n = true := eqS_iff.2 rfl
      unfold insL keepL
      rw [List.filter_append, List.filter_cons, if_neg (by simp [hasB, e]), ← List.filter_append, List.take_append_drop]
    rw [h1, keep_keep]
theorem ins_chk {n v : ByteArray} (hn : nameB n = true) (h0 : 0 < v.size) (h2 : v.size ≤ 200) : ∀ (m : List Lb) (o : Option ByteArray), chkL o m = 0 → leP n o = false → (∀ x ∈ m, eqS n x.n = false) → chkL o (insL m (lessN n m) ⟨n, v⟩) = 0
  | [], o, _, ho, _ => chkL_mk hn h0 h2 ho rfl
  | y :: r, o, h, ho, hne => by
    obtain ⟨k1, k2, k3, k4, k5⟩ := chkL_cons h
    rw [lessN]
    split
    · rename_i hl
      show chkL o (y :: insL r (lessN n r) ⟨n, v⟩) = 0
      exact chkL_mk k1 k2 k3 k4 (ins_chk hn h0 h2 r _ k5 (leS_false.2 hl) fun x hx => hne x (by simp [hx]))
    · rename_i hl
      show chkL o (⟨n, v⟩ :: y :: r) = 0
      refine chkL_mk hn h0 h2 ho (chkL_mk k1 k2 k3 ?_ k5)
      refine leS_false.2 ?_
      cases hb : Op.bytesLess n.toList y.n.toList with
      | true => rfl
      | false =>
        have e := bl_total _ _ hb (by simpa using hl)
        have e2 : eqS n y.n = true := by unfold eqS; rw [e]; simp
        rw [hne y (by simp)] at e2
        cases e2
theorem one_chk {n : ByteArray} (h : chk [⟨n, ⟨#[120]⟩⟩] = 0) : nameB n = true := (chkL_cons (chk_len h).2).1
/-- A label set stays one. -/
theorem with_chk {l : List Lb} {n v : ByteArray} (h : chk l = 0) (hn : nameB n = true) (h2 : v.size ≤ 200) (hl : (withL l n v).length ≤ 16) : chk (withL l n v) = 0 := by
  cases hv : v.toList.isEmpty with
  | true => rw [withL_nil hv]; exact chk_keep false [n] h
  | false =>
    have h0 : 0 < v.size := by
      rcases Nat.eq_zero_or_pos v.size with h | h
      · have e := emp_true h
        rw [hv] at e
        cases e
      · exact h
    refine chk_of hl ?_
    rw [withL_ins hv]
    exact ins_chk hn h0 h2 _ none (chk_len (chk_keep false [n] h)).2 rfl (drop_ne n l)
end Go.Proofs.Ytbphhdmnfepbnaa.Lab
