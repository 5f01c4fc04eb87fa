
/- Layer 7: simplifying and implying, as the reference does it. Layer 7: Fits, Matches of the reference. -/
import Derived.Test.YtdeppcddknakjaaGreatDoorCVa
import Derived.Test.YtdeppcddknakjaaGreatDoorCY
import Derived.Test.YtdeppcddknakjaaGreatDoorCTq
set_option maxRecDepth 100000
set_option linter.unusedVariables false
set_option linter.unusedSimpArgs false
namespace Go.Proofs.YtdeppcddknakjaaGreatDoor.Mx
open Go.Proofs.YtdeppcddknakjaaGreatDoor.Rx (MatS Mat Re check parse emptyS emptyR pre prefix_ leadB pfxS)
open Go.Proofs.YtdeppcddknakjaaGreatDoor.Lab (nameB getL Lb cmpS ord_S Ord3)
/-- The value of the first equal matcher of a name. -/
def eqlR : List Mt → ByteArray → Option ByteArray
 | [], _ => none
 | m :: l, n => if m.k = 1 ∧ m.n = n then some m.v else eqlR l n
theorem eqlR_some {n v : ByteArray} : ∀ {l : List Mt}, eqlR l n = some v → ∃ x ∈ l, x.k = 1 ∧ x.n = n ∧ x.v = v
 | [], h => by cases h
 | m :: l, h => by
  rw [eqlR] at h
  split at h
  ·rename_i hm
   injection h with h
   exact ⟨m, List.mem_cons_self .., hm.1, hm.2, h⟩
  ·obtain ⟨x, hx, h2⟩ := eqlR_some h
   exact ⟨x, List.mem_cons_of_mem _ hx, h2⟩
theorem eqlR_none {n : ByteArray} : ∀ {l : List Mt}, eqlR l n = none → ∀ x ∈ l, x.k = 1 → x.n ≠ n
 | [], _ => fun x hx => by cases hx
 | m :: l, h => by
  rw [eqlR] at h
  split at h
  ·cases h
  ·rename_i hm
   intro x hx hk hn
   rcases List.mem_cons.1 hx with rfl | hx
   ·exact hm ⟨hk, hn⟩
   ·exact eqlR_none h x hx hk hn
/-- The prefixes exclude each other. -/
def begR (a b : ByteArray) : Bool := if b.size < a.size then pfxS a b else pfxS b a
theorem pfx_len {s u : ByteArray} (h : pfxS s u = true) : u.size ≤ s.size := by
 have h1 := (pfx_iff.1 h).length_le
 rwa [Array.length_toList, Array.length_toList] at h1
theorem pfx_same {s u : ByteArray} (h : pfxS s u = true) (hs : s.size ≤ u.size) : pfxS u s = true := by
 obtain ⟨t, ht⟩ := pfx_iff.1 h
 have h2 := congrArg List.length ht
 rw [List.length_append, Array.length_toList] at h2
 have h3 : u.data.size = u.size := rfl
 have h4 : s.data.size = s.size := rfl
 have h6 : (s.data.toList).length = s.size := Array.length_toList
 have h5 : t = [] := List.eq_nil_of_length_eq_zero (by omega)
 rw [h5, List.append_nil] at ht
 exact pfx_iff.2 (by rw [ht]; exact List.prefix_refl _)
theorem begR_eq (a b : ByteArray) : begR a b = (pfxS a b || pfxS b a) := by
 unfold begR
 split
 ·rename_i h
  cases hb : pfxS b a with
  | false => rw [Bool.or_false]
  | true => have := pfx_len hb; omega
 ·rename_i h
  cases hb : pfxS a b with
  | false => rw [Bool.false_or]
  | true => rw [pfx_same hb (by omega)]; rfl
theorem apart_beg (p q : ByteArray) : apart p q = !begR (preS p).1 (preS q).1 := by
 unfold apart
 rw [begR_eq, Bool.not_or]
/-- Whether a matcher is a regular expression that excludes another one. -/
noncomputable def exR (x m : Mt) : Bool := decide (x.k = 3 ∧ x.n = m.n) && excl x.v m
theorem exR_iff {x m : Mt} : exR x m = true ↔ x.k = 3 ∧ x.n = m.n ∧ excl x.v m = true := by
 unfold exR
 rw [Bool.and_eq_true, decide_eq_true_iff, and_assoc]
theorem exR_tells {x m : Mt} (h : exR x m = true) : tells x m = true := by
 obtain ⟨h1, _, h3⟩ := exR_iff.1 h
 rw [tells3 h1]
 exact h3
/-- A contradiction at one place. -/
noncomputable def conAt (l : List Mt) (i : Nat) (m : Mt) : Bool :=
 (decide (m.k = 3) && emp m.v) || ((match eqlR l m.n with | none => false | some v => !fits m v) || (l.take i).any fun x => decide (m.k = 3 ∧ x.k = 3 ∧ m.n = x.n) && apart m.v x.v)
noncomputable def conR (l : List Mt) : Bool := (List.range l.length).any fun i => match l[i]? with | none => false | some m => conAt l i m
theorem conR_iff {l : List Mt} : conR l = true ↔ ∃ (i : Nat) (h : i < l.length), conAt l i l[i] = true := by
 unfold conR
 rw [List.any_eq_true]
 constructor
 ·rintro ⟨i, hi, h⟩
  have hi := List.mem_range.1 hi
  rw [List.getElem?_eq_getElem hi] at h
  exact ⟨i, hi, h⟩
 ·rintro ⟨i, hi, h⟩
  refine ⟨i, List.mem_range.2 hi, ?_⟩
  rw [List.getElem?_eq_getElem hi]
  exact h
theorem conAt_iff {l : List Mt} {i : Nat} {m : Mt} : conAt l i m = true ↔ (m.k = 3 ∧ emp m.v = true) ∨ (∃ v, eqlR l m.n = some v ∧ fits m v = false) ∨ ∃ x ∈ l.take i, m.k = 3 ∧ x.k = 3 ∧ m.n = x.n ∧ apart m.v x.v = true := by
 unfold conAt
 rw [Bool.or_eq_true, Bool.or_eq_true, Bool.and_eq_true, decide_eq_true_iff, List.any_eq_true]
 have h1 : ((match eqlR l m.n with | none => false | some v => !fits m v) = true) ↔ ∃ v, eqlR l m.n = some v ∧ fits m v = false := by
  cases eqlR l m.n with
  | none => simp
  | some v => simp
 rw [h1]
 constructor
 ·rintro (h | h | ⟨x, hx, h⟩)
  ·exact .inl h
  ·exact .inr (.inl h)
  ·rw [Bool.and_eq_true, decide_eq_true_iff] at h
   exact .inr (.inr ⟨x, hx, h.1.1, h.1.2.1, h.1.2.2, h.2⟩)
 ·rintro (h | h | ⟨x, hx, h1, h2, h3, h4⟩)
  ·exact .inl h
  ·exact .inr (.inl h)
  ·exact .inr (.inr ⟨x, hx, by rw [Bool.and_eq_true, decide_eq_true_iff]; exact ⟨⟨h1, h2, h3⟩, h4⟩⟩)
def Kinds (l : List Mt) : Prop := ∀ m ∈ l, 1 ≤ m.k ∧ m.k ≤ 4
theorem neg_k4 {m : Mt} (hk : 1 ≤ m.k ∧ m.k ≤ 4) (h : (neg m).k = 4) : m.k = 3 := by
 rcases kinds hk.1 hk.2 with e | e | e | e
 ·rw [neg1 e] at h; cases h
 ·rw [neg2 e] at h; cases h
 ·exact e
 ·rw [neg4 e] at h; cases h
/-- An equal matcher against another one. -/
theorem con_equal {l : List Mt} {x m : Mt} (hx : x ∈ l) (hm : m ∈ l) (hk : x.k = 1) (hn : x.n = m.n) (hf : fits m x.v = false) : conR l = true := by
 cases he : eqlR l m.n with
 | none => exact absurd hn (eqlR_none he x hx hk)
 | some v =>
  cases hv : fits m v with
  | false =>
   obtain ⟨i, hi, e⟩ := List.getElem_of_mem hm
   exact conR_iff.2 ⟨i, hi, conAt_iff.2 (.inr (.inl ⟨v, by rw [e]; exact he, by rw [e]; exact hv⟩))⟩
  | true =>
   obtain ⟨i, hi, e⟩ := List.getElem_of_mem hx
   refine conR_iff.2 ⟨i, hi, conAt_iff.2 (.inr (.inl ⟨v, by rw [e, hn]; exact he, ?_⟩))⟩
   rw [e, fits1 hk, decide_eq_false_iff_not]
   rintro rfl
   rw [hv] at hf
   cases hf
theorem con_apart {l : List Mt} {i j : Nat} (hi : i < l.length) (hj : j < l.length) (hij : i < j) (h1 : l[i].k = 3) (h2 : l[j].k = 3) (hn : l[i].n = l[j].n) (ha : apart l[i].v l[j].v = true) : conR l = true := by
 refine conR_iff.2 ⟨j, hj, conAt_iff.2 (.inr (.inr ⟨l[i], ?_, h2, h1, hn.symm, by rw [apart_comm]; exact ha⟩))⟩
 exact List.mem_take_iff_getElem.2 ⟨i, by omega, rfl⟩
/-- The two ways to see a contradiction are one. -/
theorem conR_eq {l : List Mt} (hk : Kinds l) : conR l = l.any (contra l) := by
 rw [Bool.eq_iff_iff, List.any_eq_true]
 constructor
 ·intro h
  obtain ⟨i, hi, h⟩ := conR_iff.1 h
  have hm := List.getElem_mem hi
  have hkm := hk _ hm
  refine ⟨l[i], hm, ?_⟩
  unfold contra
  rcases conAt_iff.1 h with ⟨h1, h2⟩ | ⟨v, h1, h2⟩ | ⟨x, hx, h1, h2, h3, h4⟩
  ·exact ens_iff.2 (.inl (by rw [neg3 h1]; exact ⟨rfl, h2⟩))
  ·obtain ⟨x, hx, hxk, hxn, hxv⟩ := eqlR_some h1
   refine ens_iff.2 (.inr ⟨x, hx, by rw [neg_n hkm.1 hkm.2]; exact hxn, ?_⟩)
   rw [tells1 hxk, fits_neg hkm.1 hkm.2, hxv, h2]
   rfl
  ·refine ens_iff.2 (.inr ⟨x, List.mem_of_mem_take hx, by rw [neg_n hkm.1 hkm.2]; exact h3.symm, ?_⟩)
   rw [tells3 h2, neg3 h1, excl4 rfl, apart_comm]
   exact h4
 ·rintro ⟨m, hm, h⟩
  have hkm := hk _ hm
  unfold contra at h
  rcases ens_iff.1 h with ⟨h1, h2⟩ | ⟨x, hx, hn, ht⟩
  ·have h3 := neg_k4 hkm h1
   rw [neg3 h3] at h2
   obtain ⟨i, hi, e⟩ := List.getElem_of_mem hm
   exact conR_iff.2 ⟨i, hi, conAt_iff.2 (.inl (by rw [e]; exact ⟨h3, h2⟩))⟩
  ·rw [neg_n hkm.1 hkm.2] at hn
   rcases tells_k ht with hxk | hxk
   ·rw [tells1 hxk, fits_neg hkm.1 hkm.2] at ht
    exact con_equal hx hm hxk hn (by simpa using ht)
   ·rw [tells3 hxk] at ht
    rcases kinds hkm.1 hkm.2 with e | e | e | e
    ·rw [neg1 e, excl2 rfl] at ht
     refine con_equal hm hx e hn.symm ?_
     rw [fits3 hxk]
     simpa using ht
    ·rw [neg2 e] at ht
     rcases excl_k ht with h | h <;> cases h
    ·rw [neg3 e, excl4 rfl] at ht
     obtain ⟨i, hi, ei⟩ := List.getElem_of_mem hx
     obtain ⟨j, hj, ej⟩ := List.getElem_of_mem hm
     rcases Nat.lt_trichotomy i j with hij | hij | hij
     ·exact con_apart hi hj hij (by rw [ei]; exact hxk) (by rw [ej]; exact e) (by rw [ei, ej]; exact hn) (by rw [ei, ej]; exact ht)
     ·subst hij
      have hxm : x = m := ei.symm.trans ej
      rw [hxm] at ht
      have := apart_self m.v
      exact absurd (this.symm.trans ht) (by decide)
     ·exact con_apart hj hi hij (by rw [ej]; exact e) (by rw [ei]; exact hxk) (by rw [ei, ej]; exact hn.symm) (by rw [ei, ej, apart_comm]; exact ht)
    ·rw [neg4 e] at ht
     rcases excl_k ht with h | h <;> cases h
/-- Whether a matcher is left out. -/
noncomputable def needR (l : List Mt) (m : Mt) : Bool :=
 match eqlR l m.n with
 | some _ => decide (m.k ≠ 1)
 | none => (decide (m.k = 4) && emp m.v) || l.any fun x => exR x m
theorem needR_eq {l : List Mt} (hk : Kinds l) (hc : ∀ m ∈ l, contra l m = false) {m : Mt} (hm : m ∈ l) : needR l m = repl l m := by
 have hkm := hk m hm
 unfold needR
 cases he : eqlR l m.n with
 | some v =>
  show decide (m.k ≠ 1) = _
  unfold repl
  cases hd : decide (m.k ≠ 1) with
  | false => rfl
  | true =>
   rw [Bool.true_and]
   symm
   obtain ⟨x, hx, hxk, hxn, hxv⟩ := eqlR_some he
   refine ens_iff.2 (.inr ⟨x, hx, hxn, ?_⟩)
   rw [tells1 hxk]
   have h1 := hc m hm
   unfold contra at h1
   cases hf : fits m x.v with
   | true => rfl
   | false =>
    rw [ens_iff.2 (.inr ⟨x, hx, by rw [neg_n hkm.1 hkm.2]; exact hxn, by rw [tells1 hxk, fits_neg hkm.1 hkm.2, hf]; rfl⟩)] at h1
    cases h1
 | none =>
  have h1 : m.k ≠ 1 := fun e => eqlR_none he m hm e rfl
  show (decide (m.k = 4) && emp m.v || l.any fun x => exR x m) = _
  rw [Bool.eq_iff_iff, repl_iff, ens_iff, Bool.or_eq_true, Bool.and_eq_true, decide_eq_true_iff, List.any_eq_true]
  constructor
  ·rintro (h | ⟨x, hx, h⟩)
   ·exact ⟨h1, .inl h⟩
   ·exact ⟨h1, .inr ⟨x, hx, (exR_iff.1 h).2.1, exR_tells h⟩⟩
  ·rintro ⟨_, h | ⟨x, hx, hn, ht⟩⟩
   ·exact .inl h
   ·rcases tells_k ht with k | k
    ·exact absurd hn (eqlR_none he x hx k)
    ·rw [tells3 k] at ht
     exact .inr ⟨x, hx, exR_iff.2 ⟨k, hn, ht⟩⟩
instance (a b : Mt) : Decidable (ltM a b) := inferInstanceAs (Decidable (cmpM a b < 0))
/-- A matcher more, at its place. -/
def putR (l : List Mt) (m : Mt) : List Mt := if m ∈ l then l else l.takeWhile (fun x => decide (ltM x m)) ++ m :: l.dropWhile (fun x => decide (ltM x m))
theorem putR_mem {l : List Mt} {m x : Mt} : x ∈ putR l m ↔ x = m ∨ x ∈ l := by
 unfold putR
 split
 ·rename_i h
  constructor
  ·exact .inr
  ·rintro (rfl | h2)
   ·exact h
   ·exact h2
 ·have e : x ∈ l ↔ x ∈ l.takeWhile (fun x => decide (ltM x m)) ∨ x ∈ l.dropWhile (fun x => decide (ltM x m)) := by
   rw [← List.mem_append, List.takeWhile_append_dropWhile]
  rw [e, List.mem_append, List.mem_cons]
  constructor
  ·rintro (h | h | h)
   ·exact .inr (.inl h)
   ·exact .inl h
   ·exact .inr (.inr h)
  ·rintro (h | h | h)
   ·exact .inr (.inl h)
   ·exact .inl h
   ·exact .inr (.inr h)
theorem putR_asc {l : List Mt} (m : Mt) (h : l.Pairwise ltM) : (putR l m).Pairwise ltM := by
 unfold putR
 split
 ·exact h
 ·rename_i hm
  have hs : (l.takeWhile (fun x => decide (ltM x m)) ++ l.dropWhile (fun x => decide (ltM x m))).Pairwise ltM := by rw [List.takeWhile_append_dropWhile]; exact h
  obtain ⟨h1, h2, h3⟩ := List.pairwise_append.1 hs
  have hd : ∀ y ∈ l.dropWhile (fun x => decide (ltM x m)), ltM m y := by
   intro y hy
   cases hdw : l.dropWhile (fun x => decide (ltM x m)) with
   | nil => rw [hdw] at hy; cases hy
   | cons z r =>
    have hz : ¬ ltM z m := by
     have hh := List.head_dropWhile_not (fun x => decide (ltM x m)) (l := l) (by rw [hdw]; simp)
     simp only [hdw, List.head_cons] at hh
     simpa using hh
    have hzm : m ≠ z := by
     rintro rfl
     exact hm ((List.dropWhile_sublist _).subset (by rw [hdw]; exact List.mem_cons_self ..))
    have hmz : ltM m z := by
     rcases ltM_tot z m with k | k | k
     ·exact absurd k hz
     ·exact absurd k.symm hzm
     ·exact k
    rw [hdw] at hy h2
    rcases List.mem_cons.1 hy with rfl | hy
    ·exact hmz
    ·exact ltM_trans hmz ((List.pairwise_cons.1 h2).1 y hy)
  refine List.pairwise_append.2 ⟨h1, List.pairwise_cons.2 ⟨hd, h2⟩, ?_⟩
  intro a ha b hb
  have ham : ltM a m := by
   have := List.all_eq_true.1 (List.all_takeWhile (l := l) (p := fun x => decide (ltM x m))) a ha
   simpa using this
  rcases List.mem_cons.1 hb with rfl | hb
  ·exact ham
  ·exact h3 a ha b hb
/-- Those that are kept, put one by one. -/
noncomputable def keptR (l : List Mt) (k : Nat) : List Mt := (l.take k).foldl (fun o m => if needR l m then o else putR o m) []
theorem keptR_zero (l : List Mt) : keptR l 0 = [] := rfl
theorem keptR_succ {l : List Mt} {k : Nat} (hk : k < l.length) : keptR l (k + 1) = if needR l l[k] then keptR l k else putR (keptR l k) l[k] := by
 unfold keptR
 rw [List.take_succ_eq_append_getElem hk, List.foldl_append]
 rfl
theorem keptR_asc (l : List Mt) : ∀ k, (keptR l k).Pairwise ltM := by
 intro k
 induction k with
 | zero => exact List.Pairwise.nil
 | succ k ih =>
  by_cases hk : k < l.length
  ·rw [keptR_succ hk]
   split
   ·exact ih
   ·exact putR_asc _ ih
  ·unfold keptR at ih ⊢
   rw [List.take_of_length_le (by omega)]
   rwa [List.take_of_length_le (by omega)] at ih
theorem keptR_mem (l : List Mt) : ∀ k, ∀ x, x ∈ keptR l k ↔ x ∈ l.take k ∧ needR l x = false := by
 intro k
 induction k with
 | zero => intro x; simp [keptR_zero]
 | succ k ih =>
  intro x
  by_cases hk : k < l.length
  ·rw [keptR_succ hk, List.take_succ_eq_append_getElem hk, List.mem_append, List.mem_singleton]
   split
   ·rename_i hn
    rw [ih x]
    constructor
    ·rintro ⟨h1, h2⟩; exact ⟨.inl h1, h2⟩
    ·rintro ⟨h1 | h1, h2⟩
     ·exact ⟨h1, h2⟩
     ·rw [h1, hn] at h2; cases h2
   ·rename_i hn
    rw [putR_mem, ih x]
    constructor
    ·rintro (h | ⟨h1, h2⟩)
     ·rw [h]; exact ⟨.inr rfl, by simpa using hn⟩
     ·exact ⟨.inl h1, h2⟩
    ·rintro ⟨h1 | h1, h2⟩
     ·exact .inr ⟨h1, h2⟩
     ·exact .inl h1
  ·have h1 := ih x
   unfold keptR at h1 ⊢
   rw [List.take_of_length_le (by omega)] at h1 ⊢
   exact h1
theorem putR_len (l : List Mt) (m : Mt) : (putR l m).length ≤ l.length + 1 := by
 unfold putR
 split
 ·omega
 ·have h := congrArg List.length (List.takeWhile_append_dropWhile (p := fun x => decide (ltM x m)) (l := l))
  rw [List.length_append] at h
  rw [List.length_append, List.length_cons]
  omega
theorem keptR_len (l : List Mt) (k : Nat) : (keptR l k).length ≤ k := by
 induction k with
 | zero => exact Nat.le_refl _
 | succ k ih =>
  by_cases hk : k < l.length
  ·rw [keptR_succ hk]
   split
   ·omega
   ·have := putR_len (keptR l k) l[k]; omega
  ·unfold keptR at ih ⊢
   rw [List.take_of_length_le (by omega)]
   rw [List.take_of_length_le (by omega)] at ih
   omega
/-- The reference simplifies as the program does. -/
theorem simR_eq {l : List Mt} (hv : Val l) : simA l = if conR (l.map lit) then none else some (keptR (l.map lit) (l.map lit).length) := by
 have hk : Kinds (l.map lit) := hv.lit.kinds
 rw [conR_eq hk]
 split
 ·rename_i h
  exact simA_none.2 (List.any_eq_true.1 h)
 ·rename_i h
  have hc : ∀ m ∈ l.map lit, contra (l.map lit) m = false := fun m hm => by
   cases hx : contra (l.map lit) m with
   | false => rfl
   | true => exact absurd (List.any_eq_true.2 ⟨m, hm, hx⟩) h
  refine simA_intro hc (fun m => ?_) (keptR_asc _ _)
  rw [keptR_mem, List.take_length]
  constructor
  ·rintro ⟨h1, h2⟩
   rw [needR_eq hk hc h1] at h2
   exact ⟨h1, h2⟩
  ·rintro ⟨h1, h2⟩
   rw [← needR_eq hk hc h1] at h2
   exact ⟨h1, h2⟩
/-- Whether a simplified list implies a matcher. -/
noncomputable def impR (l : List Mt) (m : Mt) : Bool :=
 (match eqlR l m.n with | none => false | some v => fits m v) || l.any fun x => decide (x = m) || (exR x m || (decide (m.k = 2 ∧ x.k = 4 ∧ x.n = m.n) && mB x.v m.v))
theorem impR_iff {l : List Mt} {m : Mt} : impR l m = true ↔ (∃ v, eqlR l m.n = some v ∧ fits m v = true) ∨ ∃ x ∈ l, x = m ∨ exR x m = true ∨ (m.k = 2 ∧ x.k = 4 ∧ x.n = m.n ∧ mB x.v m.v = true) := by
 unfold impR
 rw [Bool.or_eq_true, List.any_eq_true]
 have h1 : ((match eqlR l m.n with | none => false | some v => fits m v) = true) ↔ ∃ v, eqlR l m.n = some v ∧ fits m v = true := by
  cases eqlR l m.n with
  | none => simp
  | some v => simp
 rw [h1]
 constructor
 ·rintro (h | ⟨x, hx, h⟩)
  ·exact .inl h
  ·rw [Bool.or_eq_true, Bool.or_eq_true, Bool.and_eq_true, decide_eq_true_iff, decide_eq_true_iff] at h
   refine .inr ⟨x, hx, ?_⟩
   rcases h with h | h | h
   ·exact .inl h
   ·exact .inr (.inl h)
   ·exact .inr (.inr ⟨h.1.1, h.1.2.1, h.1.2.2, h.2⟩)
 ·rintro (h | ⟨x, hx, h⟩)
  ·exact .inl h
  ·refine .inr ⟨x, hx, ?_⟩
   rw [Bool.or_eq_true, Bool.or_eq_true, Bool.and_eq_true, decide_eq_true_iff, decide_eq_true_iff]
   rcases h with h | h | ⟨h1, h2, h3, h4⟩
   ·exact .inl h
   ·exact .inr (.inl h)
   ·exact .inr (.inr ⟨⟨h1, h2, h3⟩, h4⟩)
theorem impR_eq {a b x y : List Mt} (ha : Val a) (hb : Val b) (hx : simA a = some x) (hy : simA b = some y) {m : Mt} (hm : m ∈ y) : impR x m = impl x m := by
 obtain ⟨a1, a2, _, _⟩ := simA_some hx
 obtain ⟨_, b2, _, _⟩ := simA_some hy
 have hvx := simA_val ha hx
 have hkm : 1 ≤ m.k ∧ m.k ≤ 4 := chk1_kind (simA_val hb hy m hm)
 have hone : ∀ p ∈ x, ∀ q ∈ x, p.k = 1 → q.k = 1 → p.n = q.n → p.v = q.v := fun p hp q hq hpk hqk hn => by
  have h1 := a1 q ((a2 q).1 hq).1
  unfold contra at h1
  by_cases hv : p.v = q.v
  ·exact hv
  ·have : ens (a.map lit) (neg q) = true := ens_iff.2 (.inr ⟨p, ((a2 p).1 hp).1, by rw [neg1 hqk]; exact hn, by rw [tells1 hpk, neg1 hqk, fits2 rfl]; exact decide_eq_true hv⟩)
   rw [this] at h1
   cases h1
 have heq : ∀ p ∈ x, p.k = 1 → p.n = m.n → eqlR x m.n = some p.v := fun p hp hpk hn => by
  cases he : eqlR x m.n with
  | none => exact absurd hn (eqlR_none he p hp hpk)
  | some v =>
   obtain ⟨q, hq, hqk, hqn, hqv⟩ := eqlR_some he
   rw [← hqv, hone p hp q hq hpk hqk (hn.trans hqn.symm)]
 rw [Bool.eq_iff_iff, impR_iff, impl_iff]
 constructor
 ·rintro (⟨v, h1, h2⟩ | ⟨p, hp, h | h | ⟨h1, h2, h3, h4⟩⟩)
  ·obtain ⟨q, hq, hqk, hqn, hqv⟩ := eqlR_some h1
   exact .inr (.inl (ens_iff.2 (.inr ⟨q, hq, hqn, by rw [tells1 hqk, hqv]; exact h2⟩)))
  ·rw [h] at hp; exact .inl hp
  ·exact .inr (.inl (ens_iff.2 (.inr ⟨p, hp, (exR_iff.1 h).2.1, exR_tells h⟩)))
  ·exact .inr (.inr ⟨h1, p, hp, h3, by rw [fits4 h2, h4]; rfl⟩)
 ·rintro (h | h | ⟨h1, p, hp, hn, hf⟩)
  ·exact .inr ⟨m, h, .inl rfl⟩
  ·rcases ens_iff.1 h with ⟨h1, h2⟩ | ⟨p, hp, hn, ht⟩
   ·have h3 := ((b2 m).1 hm).2
    rw [repl_iff.2 ⟨by omega, ens_iff.2 (.inl ⟨h1, h2⟩)⟩] at h3
    cases h3
   ·rcases tells_k ht with k | k
    ·rw [tells1 k] at ht
     exact .inl ⟨p.v, heq p hp k hn, ht⟩
    ·rw [tells3 k] at ht
     exact .inr ⟨p, hp, .inr (.inl (exR_iff.2 ⟨k, hn, ht⟩))⟩
  ·have hkp := chk1_kind (hvx p hp)
   rcases kinds hkp.1 hkp.2 with k | k | k | k
   ·rw [fits1 k, decide_eq_false_iff_not] at hf
    exact .inl ⟨p.v, heq p hp k hn, by rw [fits2 h1]; exact decide_eq_true fun e => hf e.symm⟩
   ·rw [fits2 k] at hf
    have hv : m.v = p.v := by simpa using hf
    exact .inr ⟨p, hp, .inl (Mt.ext' (k.trans h1.symm) hn hv.symm)⟩
   ·rw [fits3 k] at hf
    exact .inr ⟨p, hp, .inr (.inl (exR_iff.2 ⟨k, hn, by rw [excl2 h1, hf]; rfl⟩))⟩
   ·rw [fits4 k] at hf
    exact .inr ⟨p, hp, .inr (.inr ⟨h1, k, hn, by simpa using hf⟩)⟩
end Go.Proofs.YtdeppcddknakjaaGreatDoor.Mx
namespace Go.Proofs.YtdeppcddknakjaaGreatDoor.Mx
open Go.RowKit
open Go.Sort (grow)
open Go.Proofs.YtdeppcddknakjaaGreatDoor.Rx (EmpP SameP pfxS ChkP MatS match_ref_is)
open Go.Proofs.YtdeppcddknakjaaGreatDoor.Lab (nameB getL Lb LS refGet_any)
theorem refM_is (p s : ByteArray) (hs : s.size ≤ 1000000) (w : World) : Calls Tryz.prog 74 #[.string p, .string s] w (EmpP (mB p s) w) := match_ref_is hs mB_iff w
set_option maxHeartbeats 4000000 in
theorem refFits_any (m : Mt) (s : ByteArray) (hs : s.size ≤ 1000000) (w : World) : Calls Tryz.prog 41 #[.agg #[.int .i64 m.k, .string m.n, .string m.v], .string s] w (EmpP (fits m s) w) := by
 obtain ⟨k, n, v⟩ := m
 dsimp only
 obtain ⟨W, hW⟩ : ∃ W, W = w.alloc (.cells #[.int .i64 k, .string n, .string v] 25) := ⟨_, rfl⟩
 have HB : Hid (Below w.heap.size w W) := by rw [hW]; exact (Below.refl _ _).alloc (Nat.le_refl _) _
 by_cases h1 : k = 1
 ·have HE : Hid (fits ⟨k, n, v⟩ s = (s.toList == v.toList)) := (fits1 h1 s).trans (str_dec s v).symm
  have e1 := bneT h1
  subst hW
  clear h1
  go_enter Tryz.func41, Tryz.ntmps41
  go_wp2
  go_ret
  exact ⟨okE HE.out.symm, HB⟩
 ·have e1 := bneF h1
  by_cases h2 : k = 2
  ·have HE : Hid (fits ⟨k, n, v⟩ s = !(s.toList == v.toList)) := by
    show _ = _
    rw [fits2 h2, str_dec]
    exact decide_not
   have e2 := bneT h2
   subst hW
   clear h1 h2
   go_enter Tryz.func41, Tryz.ntmps41
   go_wp2
   go_ret
   exact ⟨okE HE.out.symm, HB⟩
  ·have e2 := bneF h2
   have HE : Hid (fits ⟨k, n, v⟩ s = (mB v s == (k == 3))) := by
    show _ = _
    unfold fits
    rw [if_neg h1, if_neg h2]
    by_cases h3 : k = 3
    ·rw [if_pos h3, bneT h3]; cases mB v s <;> rfl
    ·rw [if_neg h3, bneF h3]; cases mB v s <;> rfl
   have hq0 : ∀ dd os, (grow (redrawn W dd) os).cell? ⟨w.heap.size, 0, none⟩ = some (.int .i64 k) := fun dd os => cell_regrown (by rw [hW]; simp) dd os
   have hq2 : ∀ dd os, (grow (redrawn W dd) os).cell? ⟨w.heap.size, 2, none⟩ = some (.string v) := fun dd os => cell_regrown (by rw [hW]; simp) dd os
   have GA : Hid (∀ dd os, Calls Tryz.prog 74 #[.string v, .string s] (grow (redrawn W dd) os) fun e w' => e = .returned (.bool (mB v s)) ∧ Below (grow (redrawn W dd) os).heap.size (grow (redrawn W dd) os) w') := fun dd os => below_of (refM_is v s hs _)
   have mixed : Tryz.prog.follows .mixedOrders = true := by kernel_rfl
   generalize mB v s = r at *
   have HW := Lib.hid hW
   clear hW h1 h2
   go_enter Tryz.func41, Tryz.ntmps41
   go_wp2
   rw [← HW.out]
   refine wp_region_quiet_below (by assumption) (by kernel_rfl) ?_
   iterate 3 quiet_step (fail)
   quiet_step (exact Calls.regrown_of (GA.out _ _))
   iterate 5 quiet_step (fail)
   refine wpQuiet_nil ?_
   intro _ hw'
   obtain ⟨⟨dq, osq⟩, hw''⟩ := hw'
   subst hw''
   have HR : Hid (Below w.heap.size w (grow (redrawn W dq) osq)) := HB.out.trans ((below_regrown W dq osq).mono HB.out.size)
   generalize grow (redrawn W dq) osq = WZ at *
   go_wp2
   go_ret
   exact ⟨okE HE.out.symm, HR⟩
end Go.Proofs.YtdeppcddknakjaaGreatDoor.Mx
