/- Layer 8: lists of numbers that ascend: sets, merging, positions. -/
import Derived.Lib.Hide
set_option linter.unusedVariables false
set_option linter.unusedSimpArgs false
namespace Go.Proofs.Ytejnmjaclhmelaa.Po
def top : Int := 1152921504606846976
def okN (x : Int) : Prop := 0 ≤ x ∧ x ≤ top
instance (x : Int) : Decidable (okN x) := by unfold okN; infer_instance
def asc (l : List Int) : Prop := l.Pairwise (· < ·)
def Val (l : List Int) : Prop := (∀ x ∈ l, okN x) ∧ asc l
/-- Why a list is not valid; p: the number before. -/
def chkF : Option Int → List Int → Int
  | _, [] => 0
  | p, x :: l => if okN x then (match p with
    | none => chkF (some x) l
    | some y => if y < x then chkF (some x) l else 9) else 2
def chk (l : List Int) : Int := chkF none l
theorem chkF_some {y : Int} : ∀ {l : List Int}, chkF (some y) l = 0 ↔ (∀ x ∈ l, okN x ∧ y < x) ∧ asc l
  | [] => by simp [chkF, asc]
  | x :: l => by
    rw [chkF]
    by_cases h : okN x
    · rw [if_pos h]
      show (if y < x then chkF (some x) l else 9) = 0 ↔ _
      by_cases h2 : y < x
      · rw [if_pos h2, chkF_some]
        unfold asc
        rw [List.pairwise_cons]
        constructor
        · rintro ⟨h3, h4⟩
          refine ⟨fun z hz => ?_, fun z hz => (h3 z hz).2, h4⟩
          rcases List.mem_cons.1 hz with rfl | hz
          · exact ⟨h, h2⟩
          · have := h3 z hz; exact ⟨this.1, by omega⟩
        · rintro ⟨h3, h4, h5⟩
          exact ⟨fun z hz => ⟨(h3 z (List.mem_cons_of_mem _ hz)).1, h4 z hz⟩, h5⟩
      · rw [if_neg h2]
        exact ⟨fun e => by omega, fun e => absurd (e.1 x (List.mem_cons_self ..)).2 h2⟩
    · rw [if_neg h]
      exact ⟨fun e => by omega, fun e => absurd (e.1 x (List.mem_cons_self ..)).1 h⟩
theorem chk_zero {l : List Int} : chk l = 0 ↔ Val l := by
  unfold chk Val
  cases l with
  | nil => simp [chkF, asc]
  | cons x l =>
    rw [chkF]
    by_cases h : okN x
    · rw [if_pos h]
      show chkF (some x) l = 0 ↔ _
      rw [chkF_some]
      unfold asc
      rw [List.pairwise_cons]
      constructor
      · rintro ⟨h3, h4⟩
        refine ⟨fun z hz => ?_, fun z hz => (h3 z hz).2, h4⟩
        rcases List.mem_cons.1 hz with rfl | hz
        · exact h
        · exact (h3 z hz).1
      · rintro ⟨h3, h4, h5⟩
        exact ⟨fun z hz => ⟨h3 z (List.mem_cons_of_mem _ hz), h4 z hz⟩, h5⟩
    · rw [if_neg h]
      exact ⟨fun e => by omega, fun e => absurd (e.1 x (List.mem_cons_self ..)) h⟩
/-- Two ascending lists with the same numbers are one. -/
theorem asc_eq : ∀ {a b : List Int}, asc a → asc b → (∀ x, x ∈ a ↔ x ∈ b) → a = b
  | [], [], _, _, _ => rfl
  | [], y :: b, _, _, h => by have := (h y).2 (List.mem_cons_self ..); cases this
  | x :: a, [], _, _, h => by have := (h x).1 (List.mem_cons_self ..); cases this
  | x :: a, y :: b, ha, hb, h => by
    unfold asc at ha hb
    rw [List.pairwise_cons] at ha hb
    have e : x = y := by
      rcases List.mem_cons.1 ((h x).1 (List.mem_cons_self ..)) with e | hx
      · exact e
      · rcases List.mem_cons.1 ((h y).2 (List.mem_cons_self ..)) with e | hy
        · exact e.symm
        · have h1 := ha.1 y hy
          have h2 := hb.1 x hx
          omega
    subst e
    rw [asc_eq ha.2 hb.2 fun z => ?_]
    constructor
    · intro hz
      rcases List.mem_cons.1 ((h z).1 (List.mem_cons_of_mem _ hz)) with e | hz'
      · have h1 := ha.1 z hz; omega
      · exact hz'
    · intro hz
      rcases List.mem_cons.1 ((h z).2 (List.mem_cons_of_mem _ hz)) with e | hz'
      · have h1 := hb.1 z hz; omega
      · exact hz'
theorem asc_nodup {l : List Int} (h : asc l) : l.Nodup := h.imp fun {a b} hab => by omega
/-- Both; one without the other. -/
def andL (a b : List Int) : List Int := a.filter fun x => decide (x ∈ b)
def wiL (a b : List Int) : List Int := a.filter fun x => !decide (x ∈ b)
theorem mem_and {a b : List Int} {x : Int} : x ∈ andL a b ↔ x ∈ a ∧ x ∈ b := by unfold andL; rw [List.mem_filter, decide_eq_true_iff]
theorem mem_wi {a b : List Int} {x : Int} : x ∈ wiL a b ↔ x ∈ a ∧ x ∉ b := by
  unfold wiL
  rw [List.mem_filter, Bool.not_eq_true', decide_eq_false_iff_not]
theorem Val.filter {l : List Int} (h : Val l) (p : Int → Bool) : Val (l.filter p) := ⟨fun x hx => h.1 x (List.mem_filter.1 hx).1, h.2.sublist List.filter_sublist⟩
theorem Val.and_ {a : List Int} (h : Val a) (b : List Int) : Val (andL a b) := h.filter _
theorem Val.wi {a : List Int} (h : Val a) (b : List Int) : Val (wiL a b) := h.filter _
/-- One number more, at its place; as the reference does it. -/
def insP (l : List Int) (x : Int) : List Int := if x ∈ l then l else l.takeWhile (fun y => decide (y < x)) ++ x :: l.dropWhile (fun y => decide (y < x))
theorem insP_mem {l : List Int} {x y : Int} : y ∈ insP l x ↔ y = x ∨ y ∈ l := by
  unfold insP
  split
  · rename_i h
    constructor
    · exact .inr
    · rintro (rfl | h2)
      · exact h
      · exact h2
  · have e : y ∈ l ↔ y ∈ l.takeWhile (fun y => decide (y < x)) ∨ y ∈ l.dropWhile (fun y => decide (y < x)) := by
      rw [← List.mem_append, List.takeWhile_append_dropWhile]
    rw [e, List.mem_append, List.mem_cons]
    constructor
    · rintro (h | h | h)
      · exact .inr (.inl h)
      · exact .inl h
      · exact .inr (.inr h)
    · rintro (h | h | h)
      · exact .inr (.inl h)
      · exact .inl h
      · exact .inr (.inr h)
theorem insP_asc {l : List Int} (x : Int) (h : asc l) : asc (insP l x) := by
  unfold insP
  split
  · exact h
  · rename_i hm
    have hs : (l.takeWhile (fun y => decide (y < x)) ++ l.dropWhile (fun y => decide (y < x))).Pairwise (· < ·) := by rw [List.takeWhile_append_dropWhile]; exact h
    obtain ⟨h1, h2, h3⟩ := List.pairwise_append.1 hs
    have hd : ∀ y ∈ l.dropWhile (fun y => decide (y < x)), x < y := by
      intro y hy
      cases hdw : l.dropWhile (fun y => decide (y < x)) with
      | nil => rw [hdw] at hy; cases hy
      | cons z r =>
        have hz : ¬ z < x := by
          have hh := List.head_dropWhile_not (fun y => decide (y < x)) (l := l) (by rw [hdw]; simp)
          simp only [hdw, List.head_cons] at hh
          simpa using hh
        have hzm : x ≠ z := by
          rintro rfl
          exact hm ((List.dropWhile_sublist _).subset (by rw [hdw]; exact List.mem_cons_self ..))
        rw [hdw] at hy h2
        rcases List.mem_cons.1 hy with rfl | hy
        · omega
        · have := (List.pairwise_cons.1 h2).1 y hy
          omega
    refine List.pairwise_append.2 ⟨h1, List.pairwise_cons.2 ⟨hd, h2⟩, ?_⟩
    intro a ha b hb
    have ham : a < x := by
      have := List.all_eq_true.1 (List.all_takeWhile (l := l) (p := fun y => decide (y < x))) a ha
      simpa using this
    rcases List.mem_cons.1 hb with rfl | hb
    · exact ham
    · exact h3 a ha b hb
theorem Val.ins {l : List Int} (h : Val l) {x : Int} (hx : okN x) : Val (insP l x) := ⟨fun y hy => by
  rcases insP_mem.1 hy with rfl | hy
  · exact hx
  · exact h.1 y hy, insP_asc x h.2⟩
theorem insP_len (l : List Int) (x : Int) : (insP l x).length ≤ l.length + 1 := by
  unfold insP
  split
  · omega
  · have h := congrArg List.length (List.takeWhile_append_dropWhile (p := fun y => decide (y < x)) (l := l))
    rw [List.length_append] at h
    rw [List.length_append, List.length_cons]
    omega
/-- All numbers of a list, one by one; of all lists. -/
def insAll (o l : List Int) : List Int := l.foldl insP o
def mrgL (ls : List (List Int)) : List Int := ls.foldl insAll []
def orL (a b : List Int) : List Int := mrgL [a, b]
theorem insAll_mem : ∀ {l o : List Int} {x : Int}, x ∈ insAll o l ↔ x ∈ o ∨ x ∈ l
  | [], o, x => by simp [insAll]
  | y :: l, o, x => by
    have h := insAll_mem (l := l) (o := insP o y) (x := x)
    unfold insAll at h ⊢
    rw [List.foldl_cons, h, insP_mem, List.mem_cons]
    constructor
    · rintro ((h | h) | h)
      · exact .inr (.inl h)
      · exact .inl h
      · exact .inr (.inr h)
    · rintro (h | h | h)
      · exact .inl (.inr h)
      · exact .inl (.inl h)
      · exact .inr h
theorem Val.insAll_ : ∀ {l o : List Int}, Val o → (∀ x ∈ l, okN x) → Val (insAll o l)
  | [], o, h, _ => h
  | y :: l, o, h, h2 => Val.insAll_ (l := l) (o := insP o y) (h.ins (h2 y (List.mem_cons_self ..))) fun x hx => h2 x (List.mem_cons_of_mem _ hx)
theorem mrg_from : ∀ {ls : List (List Int)} {o : List Int} {x : Int}, x ∈ ls.foldl insAll o ↔ x ∈ o ∨ ∃ l ∈ ls, x ∈ l
  | [], o, x => by simp
  | l :: ls, o, x => by
    rw [List.foldl_cons, mrg_from, insAll_mem]
    constructor
    · rintro ((h | h) | ⟨m, hm, h⟩)
      · exact .inl h
      · exact .inr ⟨l, List.mem_cons_self .., h⟩
      · exact .inr ⟨m, List.mem_cons_of_mem _ hm, h⟩
    · rintro (h | ⟨m, hm, h⟩)
      · exact .inl (.inl h)
      · rcases List.mem_cons.1 hm with rfl | hm
        · exact .inl (.inr h)
        · exact .inr ⟨m, hm, h⟩
theorem mrg_val : ∀ {ls : List (List Int)} {o : List Int}, Val o → (∀ l ∈ ls, Val l) → Val (ls.foldl insAll o)
  | [], o, h, _ => h
  | l :: ls, o, h, h2 => mrg_val (ls := ls) (o := insAll o l) (h.insAll_ (h2 l (List.mem_cons_self ..)).1) fun m hm => h2 m (List.mem_cons_of_mem _ hm)
theorem Val.nil : Val [] := ⟨fun x hx => by (cases hx), List.Pairwise.nil⟩
theorem mem_mrg {ls : List (List Int)} {x : Int} : x ∈ mrgL ls ↔ ∃ l ∈ ls, x ∈ l := by
  unfold mrgL
  rw [mrg_from]
  simp
theorem mrgL_val {ls : List (List Int)} (h : ∀ l ∈ ls, Val l) : Val (mrgL ls) := mrg_val Val.nil h
theorem mem_or {a b : List Int} {x : Int} : x ∈ orL a b ↔ x ∈ a ∨ x ∈ b := by unfold orL; rw [mem_mrg]; simp
theorem Val.or_ {a b : List Int} (ha : Val a) (hb : Val b) : Val (orL a b) := mrgL_val fun l hl => by
  simp only [List.mem_cons, List.not_mem_nil, or_false] at hl
  rcases hl with rfl | rfl
  · exact ha
  · exact hb
/-! P8.2: how many. -/
theorem wi_len (a b : List Int) : (wiL a b).length + (andL a b).length = a.length := by
  unfold wiL andL
  induction a with
  | nil => rfl
  | cons x a ih =>
    rw [List.filter_cons, List.filter_cons]
    by_cases h : x ∈ b
    · rw [decide_eq_true h]
      simp only [Bool.not_true, Bool.false_eq_true, if_false, if_true, List.length_cons]
      omega
    · rw [decide_eq_false h]
      simp only [Bool.not_false, if_true, Bool.false_eq_true, if_false, List.length_cons]
      omega
theorem and_comm_len {a b : List Int} (ha : Val a) (hb : Val b) : andL a b = andL b a := asc_eq (ha.and_ b).2 (hb.and_ a).2 fun x => by rw [mem_and, mem_and, _root_.and_comm]
theorem or_len {a b : List Int} (ha : Val a) (hb : Val b) : (orL a b).length + (andL a b).length = a.length + b.length := by
  have hp : (orL a b).Perm (a ++ wiL b a) := by
    refine (List.perm_ext_iff_of_nodup (asc_nodup (ha.or_ hb).2) ?_).2 fun x => ?_
    · refine List.nodup_append.2 ⟨asc_nodup ha.2, asc_nodup (hb.wi a).2, fun x hx y hy e => ?_⟩
      subst e
      exact (mem_wi.1 hy).2 hx
    · rw [mem_or, List.mem_append, mem_wi]
      by_cases h : x ∈ a <;> simp [h]
  have h1 := hp.length_eq
  rw [List.length_append] at h1
  have h2 := wi_len b a
  rw [and_comm_len hb ha] at h2
  omega
/-! P8.3. -/
theorem and_comm_ {a b : List Int} (ha : Val a) (hb : Val b) : andL a b = andL b a := and_comm_len ha hb
theorem or_comm_ {a b : List Int} (ha : Val a) (hb : Val b) : orL a b = orL b a := asc_eq (ha.or_ hb).2 (hb.or_ ha).2 fun x => by rw [mem_or, mem_or, _root_.or_comm]
theorem and_assoc_ {a b c : List Int} (ha : Val a) (hb : Val b) (hc : Val c) : andL a (andL b c) = andL (andL a b) c := asc_eq (ha.and_ _).2 ((ha.and_ b).and_ c).2 fun x => by simp only [mem_and, _root_.and_assoc]
theorem or_assoc_ {a b c : List Int} (ha : Val a) (hb : Val b) (hc : Val c) : orL a (orL b c) = orL (orL a b) c := asc_eq (ha.or_ (hb.or_ hc)).2 ((ha.or_ hb).or_ hc).2 fun x => by simp only [mem_or, _root_.or_assoc]
theorem and_idem {a : List Int} (ha : Val a) : andL a a = a := asc_eq (ha.and_ _).2 ha.2 fun x => by rw [mem_and, and_self]
theorem or_idem {a : List Int} (ha : Val a) : orL a a = a := asc_eq (ha.or_ ha).2 ha.2 fun x => by rw [mem_or, or_self]
theorem and_dist {a b c : List Int} (ha : Val a) (hb : Val b) (hc : Val c) : andL a (orL b c) = orL (andL a b) (andL a c) := asc_eq (ha.and_ _).2 ((ha.and_ b).or_ (ha.and_ c)).2 fun x => by simp only [mem_and, mem_or, and_or_left]
theorem or_dist {a b c : List Int} (ha : Val a) (hb : Val b) (hc : Val c) : orL a (andL b c) = andL (orL a b) (orL a c) := asc_eq (ha.or_ (hb.and_ c)).2 ((ha.or_ hb).and_ _).2 fun x => by simp only [mem_and, mem_or, or_and_left]
theorem wi_wi {a b c : List Int} (ha : Val a) (hb : Val b) (hc : Val c) : wiL (wiL a b) c = wiL a (orL b c) := asc_eq ((ha.wi b).wi c).2 (ha.wi _).2 fun x => by simp only [mem_wi, mem_or, not_or, _root_.and_assoc]
/-! P8.4. -/
theorem mrg_fold {ls : List (List Int)} (h : ∀ l ∈ ls, Val l) : mrgL ls = ls.foldl orL [] := by
  have key : ∀ (ls : List (List Int)) (o p : List Int), Val o → Val p → (∀ x, x ∈ o ↔ x ∈ p) → (∀ l ∈ ls, Val l) → ls.foldl insAll o = ls.foldl orL p := by
    intro ls
    induction ls with
    | nil => intro o p ho hp e _; exact asc_eq ho.2 hp.2 e
    | cons l ls ih =>
      intro o p ho hp e h
      have hl := h l (List.mem_cons_self ..)
      rw [List.foldl_cons, List.foldl_cons]
      exact ih _ _ (ho.insAll_ hl.1) (hp.or_ hl) (fun x => by rw [insAll_mem, mem_or, e]) fun m hm => h m (List.mem_cons_of_mem _ hm)
  exact key ls [] [] Val.nil Val.nil (fun _ => Iff.rfl) h
theorem mrg_perm {a b : List (List Int)} (h : ∀ l, l ∈ a ↔ l ∈ b) (ha : ∀ l ∈ a, Val l) : mrgL a = mrgL b :=
  asc_eq (mrgL_val ha).2 (mrgL_val fun l hl => ha l ((h l).2 hl)).2 fun x => by
    rw [mem_mrg, mem_mrg]
    exact ⟨fun ⟨l, h1, h2⟩ => ⟨l, (h l).1 h1, h2⟩, fun ⟨l, h1, h2⟩ => ⟨l, (h l).2 h1, h2⟩⟩
/-! P8.5. -/
def seekN (l : List Int) (x : Int) : Nat := (l.takeWhile fun y => decide (y < x)).length
theorem seekN_le (l : List Int) (x : Int) : seekN l x ≤ l.length := List.Sublist.length_le (List.takeWhile_sublist _)
theorem seekN_step : ∀ {l : List Int} {x : Int} {k : Nat} (hk : k < l.length), k ≤ seekN l x → (k + 1 ≤ seekN l x ↔ l[k] < x)
  | [], x, k, hk, _ => absurd hk (Nat.not_lt_zero k)
  | y :: l, x, 0, hk, h => by
    unfold seekN
    rw [List.takeWhile_cons]
    show _ ↔ y < x
    by_cases hy : y < x
    · rw [decide_eq_true hy]; simp [hy]
    · rw [decide_eq_false hy]; simp [hy]
  | y :: l, x, k + 1, hk, h => by
    have ih := seekN_step (l := l) (x := x) (k := k) (Nat.lt_of_succ_lt_succ hk)
    unfold seekN at h ih ⊢
    rw [List.takeWhile_cons] at h ⊢
    by_cases hy : y < x
    · rw [decide_eq_true hy, if_pos rfl, List.length_cons] at h ⊢
      rw [List.getElem_cons_succ]
      have ih2 := ih (Nat.le_of_succ_le_succ h)
      rw [← ih2]
      exact ⟨fun h => Nat.le_of_succ_le_succ h, fun h => Nat.succ_le_succ h⟩
    · rw [decide_eq_false hy] at h
      simp at h
theorem seekN_lt {l : List Int} {x : Int} {k : Nat} (hk : k < l.length) (h : k < seekN l x) : l[k] < x := (seekN_step hk (by omega)).1 h
theorem seekN_ge {l : List Int} (ha : asc l) {x : Int} {k : Nat} (hk : k < l.length) (h : seekN l x ≤ k) : x ≤ l[k] := by
  have hs : seekN l x < l.length := by omega
  have h1 : ¬ l[seekN l x] < x := fun e => by
    have := (seekN_step hs (Nat.le_refl _)).2 e
    omega
  rcases Nat.lt_or_ge (seekN l x) k with h2 | h2
  · have := List.pairwise_iff_getElem.1 ha (seekN l x) k hs hk h2
    omega
  · have e : seekN l x = k := by omega
    subst e
    omega
/-- A walk by halves finds the place: whoever has a k with these two has it. -/
theorem seekN_is {l : List Int} (ha : asc l) {x : Int} {k : Nat} (hk : k ≤ l.length) (h1 : ∀ j (hj : j < l.length), j < k → l[j] < x) (h2 : ∀ j (hj : j < l.length), k ≤ j → x ≤ l[j]) : seekN l x = k := by
  have h3 := seekN_le l x
  rcases Nat.lt_trichotomy (seekN l x) k with h | h | h
  · have hl : seekN l x < l.length := by omega
    have a1 := h1 _ hl h
    have a2 := seekN_ge ha hl (Nat.le_refl _)
    omega
  · exact h
  · have hl : k < l.length := by omega
    have a1 := h2 _ hl (Nat.le_refl _)
    have a2 := seekN_lt hl h
    omega
theorem insP_cut {l : List Int} {x : Int} (h : x ∉ l) : insP l x = l.take (seekN l x) ++ [x] ++ l.drop (seekN l x) := by
  unfold insP seekN
  rw [if_neg h]
  have e : l.takeWhile (fun y => decide (y < x)) ++ l.dropWhile (fun y => decide (y < x)) = l := List.takeWhile_append_dropWhile
  have h1 := List.take_left (l₁ := l.takeWhile (fun y => decide (y < x))) (l₂ := l.dropWhile (fun y => decide (y < x)))
  have h2 := List.drop_left (l₁ := l.takeWhile (fun y => decide (y < x))) (l₂ := l.dropWhile (fun y => decide (y < x)))
  rw [e] at h1 h2
  rw [h1, h2]
  simp
theorem mem_seek {l : List Int} (ha : asc l) {x : Int} : x ∈ l ↔ ∃ h : seekN l x < l.length, l[seekN l x] = x := by
  constructor
  · intro h
    obtain ⟨k, hk, e⟩ := List.getElem_of_mem h
    have h1 : seekN l x = k := by
      refine seekN_is ha (by omega) (fun j hj hjk => ?_) (fun j hj hjk => ?_)
      · have := List.pairwise_iff_getElem.1 ha j k hj hk hjk
        omega
      · rcases Nat.lt_or_ge k j with h2 | h2
        · have := List.pairwise_iff_getElem.1 ha k j hk hj h2
          omega
        · have e2 : k = j := by omega
          subst e2
          omega
    subst h1
    exact ⟨hk, e⟩
  · rintro ⟨h, e⟩
    rw [← e]
    exact List.getElem_mem h
end Go.Proofs.Ytejnmjaclhmelaa.Po
