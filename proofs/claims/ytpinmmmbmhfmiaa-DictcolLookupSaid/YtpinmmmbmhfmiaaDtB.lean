/- Layer 10, ahead: runs of strings, the encoding, and back; of no seat's code. -/
import Derived.Test.YtpinmmmbmhfmiaaDtA
set_option linter.unusedVariables false
set_option linter.unusedSimpArgs false
namespace Go.Proofs.Ytpinmmmbmhfmiaa.Dt
/-- The runs of a list: numbers, each with how many times it stands there. -/
def rle : List BA → List (BA × Nat)
  | [] => []
  | x :: l => match rle l with
    | [] => [(x, 1)]
    | (y, k) :: r => if x = y then (y, k + 1) :: r else (x, 1) :: (y, k) :: r
def expand (r : List (BA × Nat)) : List BA := r.flatMap fun p => List.replicate p.2 p.1
theorem expand_nil : expand [] = [] := rfl
theorem expand_cons (x : BA) (k : Nat) (r : List (BA × Nat)) : expand ((x, k) :: r) = List.replicate k x ++ expand r := rfl
theorem expand_rle : ∀ l : List BA, expand (rle l) = l
  | [] => rfl
  | x :: l => by
    have ih := expand_rle l
    rw [rle]
    cases h : rle l with
    | nil =>
      rw [h, expand_nil] at ih
      rw [← ih]
      rfl
    | cons p r =>
      obtain ⟨y, k⟩ := p
      rw [h, expand_cons] at ih
      by_cases e : x = y
      · subst e
        simp only [if_true]
        rw [expand_cons, List.replicate_succ, List.cons_append, ih]
      · simp only [if_neg e]
        rw [expand_cons, expand_cons, ih]
        rfl
theorem rle_pos : ∀ (l : List BA), ∀ p ∈ rle l, 1 ≤ p.2
  | [], p, h => by cases h
  | x :: l, p, h => by
    have ih := rle_pos l
    rw [rle] at h
    cases hr : rle l with
    | nil =>
      rw [hr] at h
      rw [List.mem_singleton] at h
      subst h
      exact Nat.le_refl _
    | cons q r =>
      obtain ⟨y, k⟩ := q
      rw [hr] at h ih
      by_cases e : x = y
      · simp only [if_pos e] at h
        rcases List.mem_cons.1 h with rfl | h
        · exact Nat.succ_pos _
        · exact ih p (List.mem_cons_of_mem _ h)
      · simp only [if_neg e] at h
        rcases List.mem_cons.1 h with rfl | h
        · exact Nat.le_refl _
        · exact ih p h
theorem rle_same (x : BA) : ∀ n : Nat, rle (List.replicate (n + 1) x) = [(x, n + 1)]
  | 0 => rfl
  | n + 1 => by
    rw [List.replicate_succ, rle, rle_same x n]
    simp
/-- The first run, and the others. -/
theorem rle_first (x : BA) (l : List BA) (hl : ∀ y, l.head? = some y → y ≠ x) : ∀ n : Nat, rle (List.replicate (n + 1) x ++ l) = (x, n + 1) :: rle l
  | 0 => by
    show rle (x :: l) = _
    rw [rle]
    cases h : rle l with
    | nil => rfl
    | cons p r =>
      obtain ⟨y, k⟩ := p
      have h2 := expand_rle l
      have h3 := rle_pos l (y, k) (by rw [h]; exact List.mem_cons_self ..)
      rw [h, expand_cons] at h2
      have hy : y ≠ x := hl y (by
        rw [← h2]
        obtain ⟨m, hm⟩ : ∃ m, k = m + 1 := ⟨k - 1, by omega⟩
        rw [hm, List.replicate_succ]
        rfl)
      simp only [if_neg (fun e => hy e.symm : ¬ x = y)]
  | n + 1 => by
    rw [List.replicate_succ, List.cons_append, rle, rle_first x l hl n]
    simp
theorem rle_step (x : BA) (l : List BA) : ∃ k, 1 ≤ k ∧ k ≤ (x :: l).length ∧ (∀ j, j < k → (x :: l)[j]? = some x) ∧ (k < (x :: l).length → (x :: l)[k]? ≠ some x) ∧ rle (x :: l) = (x, k) :: rle ((x :: l).drop k) := by
  let t := (x :: l).takeWhile fun y => decide (y = x)
  have ht : (x :: l).takeWhile (fun y => decide (y = x)) = List.replicate t.length x := by
    refine List.eq_replicate_iff.2 ⟨rfl, fun y hy => ?_⟩
    have := List.all_eq_true.1 (List.all_takeWhile (l := x :: l) (p := fun y => decide (y = x))) y hy
    simpa using this
  have hpos : 1 ≤ t.length := by
    show 1 ≤ ((x :: l).takeWhile fun y => decide (y = x)).length
    rw [List.takeWhile_cons]
    simp
  have happ : List.replicate t.length x ++ (x :: l).dropWhile (fun y => decide (y = x)) = x :: l := by rw [← ht]; exact List.takeWhile_append_dropWhile
  have hdrop : (x :: l).drop t.length = (x :: l).dropWhile (fun y => decide (y = x)) := by
    have h := congrArg (List.drop t.length) happ
    rw [List.drop_append_of_le_length (by simp), List.drop_eq_nil_of_le (by simp), List.nil_append] at h
    exact h.symm
  have hhead : ∀ y, ((x :: l).dropWhile (fun y => decide (y = x))).head? = some y → y ≠ x := by
    intro y hy
    have := List.head?_dropWhile_not (fun y => decide (y = x)) (x :: l)
    rw [hy] at this
    simpa using this
  refine ⟨t.length, hpos, List.Sublist.length_le (List.takeWhile_sublist _), fun j hj => ?_, fun hk => ?_, ?_⟩
  · rw [← happ, List.getElem?_append_left (by simpa using hj)]
    simp [hj]
  · intro e
    have h1 : ((x :: l).drop t.length).head? = some x := by rw [List.head?_drop]; exact e
    rw [hdrop] at h1
    exact hhead x h1 rfl
  · obtain ⟨m, hm⟩ : ∃ m, t.length = m + 1 := ⟨t.length - 1, by omega⟩
    have h := rle_first x _ hhead m
    rw [← hm, happ] at h
    rw [h, hdrop]
theorem rle_cons_len (x : BA) (l : List BA) : (rle l).length ≤ (rle (x :: l)).length ∧ (rle (x :: l)).length ≤ (rle l).length + 1 := by
  rw [rle]
  cases h : rle l with
  | nil => simp
  | cons p r =>
    obtain ⟨y, k⟩ := p
    by_cases e : x = y
    · simp [e]
    · simp [e]
theorem rle_len : ∀ l : List BA, (rle l).length ≤ l.length
  | [] => Nat.le_refl _
  | x :: l => by
    have h1 := rle_len l
    have h2 := (rle_cons_len x l).2
    rw [List.length_cons]
    omega
theorem rle_small : ∀ (l : List BA), ∀ p ∈ rle l, p.2 ≤ l.length ∧ p.1 ∈ l
  | [], p, h => by cases h
  | x :: l, p, h => by
    have ih := rle_small l
    rw [rle] at h
    cases hr : rle l with
    | nil =>
      rw [hr] at h
      rw [List.mem_singleton] at h
      subst h
      exact ⟨by simp, List.mem_cons_self ..⟩
    | cons q r =>
      obtain ⟨y, k⟩ := q
      rw [hr] at h ih
      by_cases e : x = y
      · simp only [if_pos e] at h
        rcases List.mem_cons.1 h with rfl | h
        · have := ih (y, k) (List.mem_cons_self ..)
          exact ⟨by simp only [List.length_cons]; have := this.1; dsimp only at this; omega, List.mem_cons_of_mem _ this.2⟩
        · have := ih p (List.mem_cons_of_mem _ h)
          exact ⟨by rw [List.length_cons]; omega, List.mem_cons_of_mem _ this.2⟩
      · simp only [if_neg e] at h
        rcases List.mem_cons.1 h with rfl | h
        · exact ⟨by simp, List.mem_cons_self ..⟩
        · have := ih p h
          exact ⟨by rw [List.length_cons]; omega, List.mem_cons_of_mem _ this.2⟩
/-- From st on, up to k, it is x. -/
def Seg (zs : List BA) (st k : Nat) (x : BA) : Prop := ∀ i, st ≤ i → i < k → zs[i]?.getD ⟨#[]⟩ = x
theorem Seg.more {zs : List BA} {st k : Nat} {x y : BA} (h : Seg zs st k x) (h2 : st < k → zs[k]?.getD ⟨#[]⟩ = x) (hy : zs[k]?.getD ⟨#[]⟩ = y) (hk : st ≤ k) : Seg zs st (k + 1) y := by
  intro i h3 h4
  by_cases e : i = k
  · rw [e]; exact hy
  · have h5 : i < k := by omega
    rw [h i h3 h5, ← h2 (by omega), hy]
theorem run_end {zs : List BA} {st k : Nat} {x : BA} (hs : st ≤ k) (hk : k < zs.length) (h : Seg zs st (k + 1) x) (hn : k + 1 < zs.length → zs[k + 1]?.getD ⟨#[]⟩ ≠ x) : rle (zs.drop st) = (x, k - st + 1) :: rle (zs.drop (k + 1)) := by
  have e : zs.drop st = List.replicate (k - st + 1) x ++ zs.drop (k + 1) := by
    apply List.ext_getElem?
    intro j
    rw [List.getElem?_drop]
    by_cases hj : j < k - st + 1
    · rw [List.getElem?_append_left (by simpa using hj), List.getElem?_replicate, if_pos hj]
      have := h (st + j) (by omega) (by omega)
      rw [List.getElem?_eq_getElem (by omega)] at this ⊢
      exact congrArg some this
    · rw [List.getElem?_append_right (by simpa using hj), List.length_replicate, List.getElem?_drop]
      congr 1
      omega
  rw [e]
  refine rle_first x _ (fun y hy => ?_) _
  by_cases hlt : k + 1 < zs.length
  · rw [List.head?_drop, List.getElem?_eq_getElem hlt] at hy
    have := hn hlt
    rw [List.getElem?_eq_getElem hlt] at this
    cases hy
    exact this
  · rw [List.drop_eq_nil_of_le (by omega)] at hy
    cases hy
/-- The bytes. -/
abbrev uv (n : Nat) : List UInt8 := Lib.uvarint n
def entB (a : List UInt8) (x : BA) : List UInt8 := uv (comN a x.data.toList) ++ uv (x.size - comN a x.data.toList) ++ x.data.toList.drop (comN a x.data.toList)
def dicB : List UInt8 → List BA → List UInt8
  | _, [] => []
  | a, x :: d => entB a x ++ dicB x.data.toList d
def runB (d : List BA) (r : List (BA × Nat)) : List UInt8 := r.flatMap fun p => uv (idxI p.1 d).toNat ++ uv (p.2 - 1)
theorem runB_cons (d : List BA) (x : BA) (k : Nat) (r : List (BA × Nat)) : runB d ((x, k) :: r) = uv (idxI x d).toNat ++ uv (k - 1) ++ runB d r := by unfold runB; rw [List.flatMap_cons]
def encL (l : List BA) : List UInt8 := uv l.length ++ uv (dict l).length ++ dicB [] (dict l) ++ runB (dict l) (rle l)
/-- A column, but for the length of its encoding. -/
def colOk (l : List BA) : Prop := l.length ≤ 2000 ∧ ∀ x ∈ l, x.size ≤ 1000
noncomputable def encO (l : List BA) : List UInt8 × Int := @ite _ (colOk l ∧ (encL l).length ≤ 1048576) (Classical.propDecidable _) (encL l, 0) ([], 4)
theorem encO_ok {l : List BA} (h : colOk l) (h2 : (encL l).length ≤ 1048576) : encO l = (encL l, 0) := if_pos ⟨h, h2⟩
theorem encO_bad {l : List BA} (h : ¬ colOk l) : encO l = ([], 4) := if_neg fun q => h q.1
theorem encO_long {l : List BA} (h : ¬ (encL l).length ≤ 1048576) : encO l = ([], 4) := if_neg fun q => h q.2
theorem encO_inv {l : List BA} {s : List UInt8} (h : encO l = (s, 0)) : colOk l ∧ (encL l).length ≤ 1048576 ∧ encL l = s := by
  by_cases h1 : colOk l
  · by_cases h2 : (encL l).length ≤ 1048576
    · rw [encO_ok h1 h2] at h
      exact ⟨h1, h2, (Prod.mk.inj h).1⟩
    · rw [encO_long h2] at h
      exact absurd (Prod.mk.inj h).2 (by decide)
  · rw [encO_bad h1] at h
    exact absurd (Prod.mk.inj h).2 (by decide)
/-- A number of at most most is read. -/
def rdN (most : Int) (s : List UInt8) : Option (Nat × List UInt8) :=
  if (rd 1152921504606846976 0 0 s).2.2 ≠ 0 then none
  else if most < ((rd 1152921504606846976 0 0 s).1 : Int) then none
  else some ((rd 1152921504606846976 0 0 s).1, s.drop (rd 1152921504606846976 0 0 s).2.1)
theorem rdN_uv {most : Int} {n : Nat} (h : (n : Int) ≤ most) (h2 : n ≤ 1152921504606846976) (r : List UInt8) : rdN most (uv n ++ r) = some (n, r) := by
  have e := rd_uv r h2 (by omega)
  unfold rdN
  rw [e]
  dsimp only
  rw [if_neg (by omega), if_neg (by omega)]
  simp
/-- The dictionary is read: n strings, behind last. -/
def wordsP : Nat → List UInt8 → List UInt8 → Option (List BA × List UInt8)
  | 0, _, s => some ([], s)
  | n + 1, last, s => match rdN last.length s with
    | none => none
    | some (p, r) => match rdN 1000 r with
      | none => none
      | some (m, q) => if q.length < m ∨ 1000 < p + m then none else match wordsP n (last.take p ++ q.take m) (q.drop m) with
        | none => none
        | some (d, z) => some (⟨(last.take p ++ q.take m).toArray⟩ :: d, z)
theorem mk_data (x : BA) : (⟨x.data.toList.toArray⟩ : BA) = x := by cases x; simp
theorem wordsP_dic : ∀ (d : List BA) (a r : List UInt8), (∀ x ∈ d, x.size ≤ 1000) → a.length ≤ 1000 → wordsP d.length a (dicB a d ++ r) = some (d, r)
  | [], _, _, _, _ => rfl
  | x :: d, a, r, h, ha => by
    have hx := h x (List.mem_cons_self ..)
    have hc := comN_le a x.data.toList
    have hxl : x.data.toList.length = x.size := Array.length_toList
    have e : dicB a (x :: d) ++ r = uv (comN a x.data.toList) ++ (uv (x.size - comN a x.data.toList) ++ (x.data.toList.drop (comN a x.data.toList) ++ (dicB x.data.toList d ++ r))) := by
      show entB a x ++ dicB x.data.toList d ++ r = _
      unfold entB
      simp only [List.append_assoc]
    have h1 := rdN_uv (most := (a.length : Int)) (n := comN a x.data.toList) (by omega) (by omega) (uv (x.size - comN a x.data.toList) ++ (x.data.toList.drop (comN a x.data.toList) ++ (dicB x.data.toList d ++ r)))
    have h2 := rdN_uv (most := 1000) (n := x.size - comN a x.data.toList) (by omega) (by omega) (x.data.toList.drop (comN a x.data.toList) ++ (dicB x.data.toList d ++ r))
    have hdl : (x.data.toList.drop (comN a x.data.toList)).length = x.size - comN a x.data.toList := by rw [List.length_drop, hxl]
    have e1 : a.take (comN a x.data.toList) ++ (x.data.toList.drop (comN a x.data.toList) ++ (dicB x.data.toList d ++ r)).take (x.size - comN a x.data.toList) = x.data.toList := by
      rw [List.take_left' hdl, comN_take, List.take_append_drop]
    have e2 : (x.data.toList.drop (comN a x.data.toList) ++ (dicB x.data.toList d ++ r)).drop (x.size - comN a x.data.toList) = dicB x.data.toList d ++ r := List.drop_left' hdl
    have ih := wordsP_dic d x.data.toList r (fun y hy => h y (List.mem_cons_of_mem _ hy)) (by omega)
    rw [e, List.length_cons, wordsP, h1]
    dsimp only
    rw [h2]
    dsimp only
    rw [if_neg (by rw [List.length_append, hdl]; omega), e1, e2, ih, mk_data]
/-- The runs are read: k strings are wanted. -/
def runsP (d : List BA) (k : Nat) (out : List BA) (s : List UInt8) : Option (List BA) :=
  if s = [] ∨ k = 0 then some out else match rdN ((d.length : Int) - 1) s with
    | none => none
    | some (i, r) => match rdN ((k : Int) - 1) r with
      | none => none
      | some (m, q) => if h : m + 1 ≤ k then runsP d (k - (m + 1)) (out ++ List.replicate (m + 1) (d[i]?.getD ⟨#[]⟩)) q else none
  termination_by k
  decreasing_by omega
theorem expand_len_cons (x : BA) (k : Nat) (r : List (BA × Nat)) : (expand ((x, k) :: r)).length = k + (expand r).length := by rw [expand_cons, List.length_append, List.length_replicate]
theorem runsP_runs (d : List BA) (hd : d.length ≤ 2000) : ∀ (r : List (BA × Nat)) (out : List BA), (∀ p ∈ r, p.1 ∈ d ∧ 1 ≤ p.2) → (expand r).length ≤ 2000 → runsP d (expand r).length out (runB d r) = some (out ++ expand r)
  | [], out, _, _ => by
    rw [runsP, if_pos (.inl rfl)]
    simp [expand]
  | (x, k) :: r, out, h, hl => by
    have h0 := h (x, k) (List.mem_cons_self ..)
    dsimp only at h0
    obtain ⟨i, hi, hil, hix⟩ := idxI_mem h0.1
    rw [expand_len_cons] at hl ⊢
    have e : runB d ((x, k) :: r) = uv i ++ (uv (k - 1) ++ runB d r) := by rw [runB_cons, hi, Int.toNat_natCast, List.append_assoc]
    have h1 := rdN_uv (most := (d.length : Int) - 1) (n := i) (by omega) (by omega) (uv (k - 1) ++ runB d r)
    have h2 := rdN_uv (most := ((k + (expand r).length : Nat) : Int) - 1) (n := k - 1) (by omega) (by omega) (runB d r)
    have hne : uv i ++ (uv (k - 1) ++ runB d r) ≠ [] := fun hq => by
      have hp := Lib.uvarint_pos i
      rw [show Lib.uvarint i = [] from (List.append_eq_nil_iff.1 hq).1] at hp
      exact absurd hp (by decide)
    have ih := runsP_runs d hd r (out ++ List.replicate k x) (fun p hp => h p (List.mem_cons_of_mem _ hp)) (by omega)
    rw [e, runsP, if_neg (by rintro (hq | hq); exact hne hq; omega), h1]
    dsimp only
    rw [h2]
    dsimp only
    rw [dif_pos (by omega), show k - 1 + 1 = k by omega, show k + (expand r).length - k = (expand r).length by omega, List.getElem?_eq_getElem hil, hix]
    show runsP d (expand r).length (out ++ List.replicate k x) (runB d r) = _
    rw [ih, expand_cons, List.append_assoc]
/-- A column is read. -/
def decP (s : List UInt8) : Option (List BA) := match rdN 2000 s with
  | none => none
  | some (n, r) => match rdN 2000 r with
    | none => none
    | some (k, q) => match wordsP k [] q with
      | none => none
      | some (d, z) => runsP d n [] z
theorem decP_enc {l : List BA} (h : colOk l) : decP (encL l) = some l := by
  have hd := dict_len l
  have h1 := rdN_uv (most := 2000) (n := l.length) (by have := h.1; omega) (by have := h.1; omega) (uv (dict l).length ++ (dicB [] (dict l) ++ runB (dict l) (rle l)))
  have h2 := rdN_uv (most := 2000) (n := (dict l).length) (by have := h.1; omega) (by have := h.1; omega) (dicB [] (dict l) ++ runB (dict l) (rle l))
  have h3 := wordsP_dic (dict l) [] (runB (dict l) (rle l)) (fun x hx => h.2 x ((dict_mem l x).1 hx)) (Nat.zero_le _)
  have h4 := runsP_runs (dict l) (by have := h.1; omega) (rle l) [] (fun p hp => ⟨(dict_mem l p.1).2 (rle_small l p hp).2, rle_pos l p hp⟩) (by rw [expand_rle]; exact h.1)
  rw [expand_rle, List.nil_append] at h4
  unfold decP encL
  rw [List.append_assoc, List.append_assoc, h1]
  dsimp only
  rw [h2]
  dsimp only
  rw [h3]
  exact h4
noncomputable def decO (s : List UInt8) : List BA × Int := match decP s with
  | none => ([], 12)
  | some l => @ite _ (encO l = (s, 0)) (Classical.propDecidable _) (l, 0) ([], 12)
theorem decO_ok {l : List BA} {s : List UInt8} (h : encO l = (s, 0)) : decO s = (l, 0) := by
  have h2 := encO_inv h
  unfold decO
  rw [← h2.2.2, decP_enc h2.1]
  dsimp only
  rw [if_pos (by rw [h, h2.2.2])]
theorem decO_bad {s : List UInt8} (h : ∀ l, encO l ≠ (s, 0)) : decO s = ([], 12) := by
  unfold decO
  cases decP s with
  | none => rfl
  | some l => exact if_neg (h l)
theorem decO_none {s : List UInt8} (h : decP s = none) : decO s = ([], 12) := by unfold decO; rw [h]
theorem decO_some {s : List UInt8} {l : List BA} (h : decP s = some l) (h2 : encO l = (s, 0)) : decO s = (l, 0) := decO_ok h2
theorem decO_not {s : List UInt8} {l : List BA} (h : decP s = some l) (h2 : encO l ≠ (s, 0)) : decO s = ([], 12) := by unfold decO; rw [h]; exact if_neg h2
theorem enc_inj {a b : List BA} {s : List UInt8} (h : encO a = (s, 0)) (k : encO b = (s, 0)) : a = b := by
  have h1 := decO_ok h
  rw [decO_ok k] at h1
  exact ((Prod.mk.inj h1).1).symm
end Go.Proofs.Ytpinmmmbmhfmiaa.Dt
