/- Layer 9, ahead: runs, differences, encodings of columns; of no seat's code. -/
import Derived.Test.YtpinmmmbmhfmiaaLow
import Derived.Lib.Varint
set_option linter.unusedVariables false
set_option linter.unusedSimpArgs false
namespace Go.Proofs.Ytpinmmmbmhfmiaa.Dc
/-- The runs of a list: numbers, each with how many times it stands there. -/
def rle : List Int → List (Int × Nat)
  | [] => []
  | x :: l => match rle l with
    | [] => [(x, 1)]
    | (y, k) :: r => if x = y then (y, k + 1) :: r else (x, 1) :: (y, k) :: r
def expand (r : List (Int × Nat)) : List Int := r.flatMap fun p => List.replicate p.2 p.1
theorem expand_nil : expand [] = [] := rfl
theorem expand_cons (x : Int) (k : Nat) (r : List (Int × Nat)) : expand ((x, k) :: r) = List.replicate k x ++ expand r := rfl
theorem expand_rle : ∀ l : List Int, expand (rle l) = l
  | [] => rfl
  | x :: l => by
    have ih := expand_rle l
    rw [rle]
    cases h : rle l with
    | nil =>
      rw [h, expand_nil] at ih
      rw [← ih]
      rfl
    | cons p r =>
      obtain ⟨y, k⟩ := p
      rw [h, expand_cons] at ih
      by_cases e : x = y
      · subst e
        simp only [if_true]
        rw [expand_cons, List.replicate_succ, List.cons_append, ih]
      · simp only [if_neg e]
        rw [expand_cons, expand_cons, ih]
        rfl
theorem rle_pos : ∀ (l : List Int), ∀ p ∈ rle l, 1 ≤ p.2
  | [], p, h => by cases h
  | x :: l, p, h => by
    have ih := rle_pos l
    rw [rle] at h
    cases hr : rle l with
    | nil =>
      rw [hr] at h
      rw [List.mem_singleton] at h
      subst h
      exact Nat.le_refl _
    | cons q r =>
      obtain ⟨y, k⟩ := q
      rw [hr] at h ih
      by_cases e : x = y
      · simp only [if_pos e] at h
        rcases List.mem_cons.1 h with rfl | h
        · exact Nat.succ_pos _
        · exact ih p (List.mem_cons_of_mem _ h)
      · simp only [if_neg e] at h
        rcases List.mem_cons.1 h with rfl | h
        · exact Nat.le_refl _
        · exact ih p h
theorem rle_same (x : Int) : ∀ n : Nat, rle (List.replicate (n + 1) x) = [(x, n + 1)]
  | 0 => rfl
  | n + 1 => by
    rw [List.replicate_succ, rle, rle_same x n]
    simp
/-- The first run, and the others. -/
theorem rle_first (x : Int) (l : List Int) (hl : ∀ y, l.head? = some y → y ≠ x) : ∀ n : Nat, rle (List.replicate (n + 1) x ++ l) = (x, n + 1) :: rle l
  | 0 => by
    show rle (x :: l) = _
    rw [rle]
    cases h : rle l with
    | nil => rfl
    | cons p r =>
      obtain ⟨y, k⟩ := p
      have h2 := expand_rle l
      have h3 := rle_pos l (y, k) (by rw [h]; exact List.mem_cons_self ..)
      rw [h, expand_cons] at h2
      have hy : y ≠ x := hl y (by
        rw [← h2]
        obtain ⟨m, hm⟩ : ∃ m, k = m + 1 := ⟨k - 1, by omega⟩
        rw [hm, List.replicate_succ]
        rfl)
      simp only [if_neg (fun e => hy e.symm : ¬ x = y)]
  | n + 1 => by
    rw [List.replicate_succ, List.cons_append, rle, rle_first x l hl n]
    simp
theorem rle_step (x : Int) (l : List Int) : ∃ k, 1 ≤ k ∧ k ≤ (x :: l).length ∧ (∀ j, j < k → (x :: l)[j]? = some x) ∧ (k < (x :: l).length → (x :: l)[k]? ≠ some x) ∧ rle (x :: l) = (x, k) :: rle ((x :: l).drop k) := by
  let t := (x :: l).takeWhile fun y => decide (y = x)
  have ht : (x :: l).takeWhile (fun y => decide (y = x)) = List.replicate t.length x := by
    refine List.eq_replicate_iff.2 ⟨rfl, fun y hy => ?_⟩
    have := List.all_eq_true.1 (List.all_takeWhile (l := x :: l) (p := fun y => decide (y = x))) y hy
    simpa using this
  have hpos : 1 ≤ t.length := by
    show 1 ≤ ((x :: l).takeWhile fun y => decide (y = x)).length
    rw [List.takeWhile_cons]
    simp
  have happ : List.replicate t.length x ++ (x :: l).dropWhile (fun y => decide (y = x)) = x :: l := by rw [← ht]; exact List.takeWhile_append_dropWhile
  have hdrop : (x :: l).drop t.length = (x :: l).dropWhile (fun y => decide (y = x)) := by
    have h := congrArg (List.drop t.length) happ
    rw [List.drop_append_of_le_length (by simp), List.drop_eq_nil_of_le (by simp), List.nil_append] at h
    exact h.symm
  have hhead : ∀ y, ((x :: l).dropWhile (fun y => decide (y = x))).head? = some y → y ≠ x := by
    intro y hy
    have := List.head?_dropWhile_not (fun y => decide (y = x)) (x :: l)
    rw [hy] at this
    simpa using this
  refine ⟨t.length, hpos, List.Sublist.length_le (List.takeWhile_sublist _), fun j hj => ?_, fun hk => ?_, ?_⟩
  · rw [← happ, List.getElem?_append_left (by simpa using hj)]
    simp [hj]
  · intro e
    have h1 : ((x :: l).drop t.length).head? = some x := by rw [List.head?_drop]; exact e
    rw [hdrop] at h1
    exact hhead x h1 rfl
  · obtain ⟨m, hm⟩ : ∃ m, t.length = m + 1 := ⟨t.length - 1, by omega⟩
    have h := rle_first x _ hhead m
    rw [← hm, happ] at h
    rw [h, hdrop]
/-- Differences of neighbours, and back. -/
def diffs : List Int → List Int
  | x :: y :: l => (y - x) :: diffs (y :: l)
  | _ => []
def sums (x : Int) : List Int → List Int
  | [] => [x]
  | d :: l => x :: sums (x + d) l
theorem sums_diffs : ∀ (x : Int) (l : List Int), sums x (diffs (x :: l)) = x :: l
  | x, [] => rfl
  | x, y :: l => by
    rw [diffs, sums, show x + (y - x) = y by omega, sums_diffs y l]
theorem diffs_len : ∀ (x : Int) (l : List Int), (diffs (x :: l)).length = l.length
  | x, [] => rfl
  | x, y :: l => by rw [diffs, List.length_cons, diffs_len y l, List.length_cons]
theorem diffs_at : ∀ (l : List Int) (k : Nat), k + 1 < l.length → (diffs l)[k]?.getD 0 = l[k + 1]?.getD 0 - l[k]?.getD 0
  | [], k, h => by simp at h
  | [x], k, h => by simp at h
  | x :: y :: l, 0, _ => by simp [diffs]
  | x :: y :: l, k + 1, h => by
    have ih := diffs_at (y :: l) k (by simpa using h)
    rw [diffs]
    simpa using ih
theorem diffs_shift (b : Int) : ∀ l : List Int, diffs (l.map (· + b)) = diffs l
  | [] => rfl
  | [x] => rfl
  | x :: y :: l => by
    have ih := diffs_shift b (y :: l)
    simp only [List.map_cons] at ih ⊢
    rw [diffs, diffs, ih]
    congr 1
    omega
theorem diffs_same (c : Int) : ∀ n : Nat, diffs (List.replicate n c) = List.replicate (n - 1) 0
  | 0 => rfl
  | 1 => rfl
  | n + 2 => by
    have ih := diffs_same c (n + 1)
    rw [List.replicate_succ] at ih
    rw [List.replicate_succ, List.replicate_succ, diffs, ih]
    show _ = List.replicate (n + 1) 0
    rw [List.replicate_succ, Nat.add_sub_cancel]
    congr 1
    omega
/-- Times at equal distances. -/
def regular (first d : Int) (n : Nat) : List Int := (List.range n).map fun (i : Nat) => first + (i : Int) * d
theorem regular_zero (first d : Int) : regular first d 0 = [] := rfl
theorem regular_succ (first d : Int) (n : Nat) : regular first d (n + 1) = first :: regular (first + d) d n := by
  unfold regular
  rw [List.range_succ_eq_map, List.map_cons, List.map_map]
  congr 1
  · simp
  · apply List.map_congr_left
    intro i _
    show first + ((i + 1 : Nat) : Int) * d = first + d + (i : Int) * d
    rw [Int.natCast_add, Int.add_mul]
    simp
    omega
theorem diffs_regular (d : Int) : ∀ (n : Nat) (first : Int), diffs (regular first d n) = List.replicate (n - 1) d
  | 0, _ => rfl
  | 1, _ => rfl
  | n + 2, first => by
    have ih := diffs_regular d (n + 1) (first + d)
    rw [regular_succ] at ih
    rw [regular_succ, regular_succ, diffs, ih]
    show _ = List.replicate (n + 1) d
    rw [List.replicate_succ, Nat.add_sub_cancel]
    congr 1
    omega
/-- The bytes. -/
def sB (x : Int) : List UInt8 := Lib.uvarint (fold x)
def runB (r : List (Int × Nat)) : List UInt8 := r.flatMap fun p => sB p.1 ++ Lib.uvarint p.2
theorem runB_cons (x : Int) (k : Nat) (r : List (Int × Nat)) : runB ((x, k) :: r) = sB x ++ Lib.uvarint k ++ runB r := by unfold runB; rw [List.flatMap_cons]
/-- A column: its first number, and what is made of the differences. -/
def colB (f : List Int → List UInt8) : List Int → List UInt8
  | [] => []
  | x :: l => sB x ++ f (diffs (x :: l))
def rleB (l : List Int) : List UInt8 := runB (rle l)
def tailV (l : List Int) : List UInt8 := colB rleB l
def tailT (l : List Int) : List UInt8 := colB tailV l
def encT (l : List Int) : List UInt8 := Lib.uvarint l.length ++ tailT l
def encV (l : List Int) : List UInt8 := Lib.uvarint l.length ++ tailV l
theorem encV_shift (l : List Int) (b x : Int) : encV (x :: l) = Lib.uvarint (l.length + 1) ++ sB x ++ rleB (diffs (x :: l)) ∧ encV ((x :: l).map (· + b)) = Lib.uvarint (l.length + 1) ++ sB (x + b) ++ rleB (diffs (x :: l)) := by
  constructor
  · unfold encV tailV colB
    rw [List.length_cons, List.append_assoc]
  · have h := diffs_shift b (x :: l)
    rw [List.map_cons] at h ⊢
    unfold encV tailV
    show Lib.uvarint (((x + b) :: l.map (· + b)).length) ++ (sB (x + b) ++ rleB (diffs ((x + b) :: l.map (· + b)))) = _
    rw [List.length_cons, List.length_map, h, List.append_assoc]
theorem rle_cons_len (x : Int) (l : List Int) : (rle l).length ≤ (rle (x :: l)).length ∧ (rle (x :: l)).length ≤ (rle l).length + 1 := by
  rw [rle]
  cases h : rle l with
  | nil => simp
  | cons p r =>
    obtain ⟨y, k⟩ := p
    by_cases e : x = y
    · simp [e]
    · simp [e]
theorem rle_len : ∀ l : List Int, (rle l).length ≤ l.length
  | [] => Nat.le_refl _
  | x :: l => by
    have h1 := rle_len l
    have h2 := (rle_cons_len x l).2
    rw [List.length_cons]
    omega
theorem rle_small : ∀ (l : List Int), ∀ p ∈ rle l, p.2 ≤ l.length ∧ p.1 ∈ l
  | [], p, h => by cases h
  | x :: l, p, h => by
    have ih := rle_small l
    rw [rle] at h
    cases hr : rle l with
    | nil =>
      rw [hr] at h
      rw [List.mem_singleton] at h
      subst h
      exact ⟨by simp, List.mem_cons_self ..⟩
    | cons q r =>
      obtain ⟨y, k⟩ := q
      rw [hr] at h ih
      by_cases e : x = y
      · simp only [if_pos e] at h
        rcases List.mem_cons.1 h with rfl | h
        · have := ih (y, k) (List.mem_cons_self ..)
          exact ⟨by simp only [List.length_cons]; have := this.1; dsimp only at this; omega, List.mem_cons_of_mem _ this.2⟩
        · have := ih p (List.mem_cons_of_mem _ h)
          exact ⟨by rw [List.length_cons]; omega, List.mem_cons_of_mem _ this.2⟩
      · simp only [if_neg e] at h
        rcases List.mem_cons.1 h with rfl | h
        · exact ⟨by simp, List.mem_cons_self ..⟩
        · have := ih p h
          exact ⟨by rw [List.length_cons]; omega, List.mem_cons_of_mem _ this.2⟩
/-- Why a list is no column. -/
def okT (x : Int) : Prop := 1 ≤ x ∧ x ≤ 1099511627776
instance (x : Int) : Decidable (okT x) := by unfold okT; infer_instance
def okV (x : Int) : Prop := -576460752303423488 ≤ x ∧ x ≤ 576460752303423488
instance (x : Int) : Decidable (okV x) := by unfold okV; infer_instance
def chkT : Int → List Int → Int
  | _, [] => 0
  | b, x :: l => if okT x then (if b < x then chkT x l else 9) else 2
def chkV : List Int → Int
  | [] => 0
  | x :: l => if okV x then chkV l else 2
theorem drop_at {l : List Int} {k : Nat} (h : k < l.length) : l.drop k = l[k]?.getD 0 :: l.drop (k + 1) := by
  rw [List.drop_eq_getElem_cons h, List.getElem?_eq_getElem h]
  rfl
theorem chkT_far {l : List Int} {k : Nat} {b : Int} (h : k < l.length) (h2 : ¬ okT (l[k]?.getD 0)) : chkT b (l.drop k) = 2 := by rw [drop_at h, chkT, if_neg h2]
theorem chkT_low {l : List Int} {k : Nat} {b : Int} (h : k < l.length) (h2 : okT (l[k]?.getD 0)) (h3 : ¬ b < l[k]?.getD 0) : chkT b (l.drop k) = 9 := by rw [drop_at h, chkT, if_pos h2, if_neg h3]
theorem chkT_go {l : List Int} {k : Nat} {b : Int} (h : k < l.length) (h2 : okT (l[k]?.getD 0)) (h3 : b < l[k]?.getD 0) : chkT b (l.drop k) = chkT (l[k]?.getD 0) (l.drop (k + 1)) := by rw [drop_at h, chkT, if_pos h2, if_pos h3]
theorem chkT_end {l : List Int} {k : Nat} {b : Int} (h : ¬ k < l.length) : chkT b (l.drop k) = 0 := by rw [List.drop_eq_nil_of_le (by omega), chkT]
theorem chkV_far {l : List Int} {k : Nat} (h : k < l.length) (h2 : ¬ okV (l[k]?.getD 0)) : chkV (l.drop k) = 2 := by rw [drop_at h, chkV, if_neg h2]
theorem chkV_go {l : List Int} {k : Nat} (h : k < l.length) (h2 : okV (l[k]?.getD 0)) : chkV (l.drop k) = chkV (l.drop (k + 1)) := by rw [drop_at h, chkV, if_pos h2]
theorem chkV_end {l : List Int} {k : Nat} (h : ¬ k < l.length) : chkV (l.drop k) = 0 := by rw [List.drop_eq_nil_of_le (by omega), chkV]
theorem chkT_zero : ∀ {l : List Int} {b : Int}, chkT b l = 0 → ∀ x ∈ l, okT x
  | [], _, _, x, hx => by cases hx
  | y :: l, b, h, x, hx => by
    unfold chkT at h
    by_cases hy : okT y
    · rw [if_pos hy] at h
      by_cases hb : b < y
      · rw [if_pos hb] at h
        rcases List.mem_cons.1 hx with rfl | hx
        · exact hy
        · exact chkT_zero h x hx
      · rw [if_neg hb] at h; omega
    · rw [if_neg hy] at h; omega
theorem chkV_zero : ∀ {l : List Int}, chkV l = 0 → ∀ x ∈ l, okV x
  | [], _, x, hx => by cases hx
  | y :: l, h, x, hx => by
    unfold chkV at h
    by_cases hy : okV y
    · rw [if_pos hy] at h
      rcases List.mem_cons.1 hx with rfl | hx
      · exact hy
      · exact chkV_zero h x hx
    · rw [if_neg hy] at h; omega
theorem chkV_all : ∀ {l : List Int}, (∀ x ∈ l, okV x) → chkV l = 0
  | [], _ => rfl
  | y :: l, h => by
    unfold chkV
    rw [if_pos (h y (List.mem_cons_self ..))]
    exact chkV_all fun x hx => h x (List.mem_cons_of_mem _ hx)
/-- Small numbers. -/
def within (M : Int) (l : List Int) : Prop := ∀ x ∈ l, -M ≤ x ∧ x ≤ M
theorem within.diffs {M : Int} : ∀ {l : List Int}, within M l → within (2 * M) (diffs l)
  | [], _ => fun x hx => by cases hx
  | [_], _ => fun x hx => by cases hx
  | x :: y :: l, h => fun z hz => by
    rw [Dc.diffs] at hz
    have hx := h x (List.mem_cons_self ..)
    have hy := h y (List.mem_cons_of_mem _ (List.mem_cons_self ..))
    rcases List.mem_cons.1 hz with rfl | hz
    · omega
    · exact within.diffs (l := y :: l) (fun w hw => h w (List.mem_cons_of_mem _ hw)) z hz
theorem within.at {M : Int} {l : List Int} (h : within M l) {k : Nat} (hk : k < l.length) : -M ≤ l[k]?.getD 0 ∧ l[k]?.getD 0 ≤ M := by
  have := h l[k] (List.getElem_mem hk)
  rw [List.getElem?_eq_getElem hk]
  exact this
theorem within.mono {M N : Int} {l : List Int} (h : within M l) (hm : M ≤ N) : within N l := fun x hx => by
  have := h x hx
  omega
end Go.Proofs.Ytpinmmmbmhfmiaa.Dc
