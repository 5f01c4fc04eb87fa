/- Layer 11, ahead: what lists of samples are: validity, merging, inserting, parts. -/
import Derived.Lib.Hide
set_option linter.unusedVariables false
set_option linter.unusedSimpArgs false
namespace Go.Proofs.Ytobipbedkkmlcaa.Sr
/-- A sample: its time and its value. -/
abbrev S := Int × Int
def Asc (l : List S) : Prop := l.Pairwise fun x y => x.1 < y.1
def okS (x : S) : Bool := decide (1 ≤ x.1) && decide (x.1 ≤ 1099511627776) && decide (-1099511627776 ≤ x.2) && decide (x.2 ≤ 1099511627776)
theorem okS_iff {x : S} : okS x = true ↔ 1 ≤ x.1 ∧ x.1 ≤ 1099511627776 ∧ -1099511627776 ≤ x.2 ∧ x.2 ≤ 1099511627776 := by
  unfold okS
  simp only [Bool.and_eq_true, decide_eq_true_eq]
  exact ⟨fun h => ⟨h.1.1.1, h.1.1.2, h.1.2, h.2⟩, fun h => ⟨⟨⟨h.1, h.2.1⟩, h.2.2.1⟩, h.2.2.2⟩⟩
/-- What is wrong with the samples, behind one of a time. -/
def chkF (c : Bool) : Option Int → List S → Nat
  | _, [] => 0
  | p, x :: r => if (!okS x || (c && decide (x.2 < 0))) = true then 2 else if (match p with | none => false | some t => decide (x.1 ≤ t)) = true then 9 else chkF c (some x.1) r
def chk (kind : Int) (l : List S) : Nat := if kind ≠ 1 ∧ kind ≠ 2 then 8 else if 2000 < l.length then 4 else chkF (decide (kind = 2)) none l
def Good (c : Bool) (l : List S) : Prop := (∀ x ∈ l, okS x = true ∧ (c = true → 0 ≤ x.2)) ∧ Asc l
theorem asc_cons {x : S} {l : List S} : Asc (x :: l) ↔ (∀ y ∈ l, x.1 < y.1) ∧ Asc l := List.pairwise_cons
theorem good_nil {c : Bool} : Good c [] := ⟨fun x h => (List.not_mem_nil h).elim, List.Pairwise.nil⟩
theorem good_cons {c : Bool} {x : S} {l : List S} : Good c (x :: l) ↔ (okS x = true ∧ (c = true → 0 ≤ x.2)) ∧ (∀ y ∈ l, x.1 < y.1) ∧ Good c l := by
  unfold Good
  rw [asc_cons]
  simp only [List.mem_cons, forall_eq_or_imp]
  exact ⟨fun h => ⟨h.1.1, h.2.1, h.1.2, h.2.2⟩, fun h => ⟨⟨h.1, h.2.2.1⟩, h.2.1, h.2.2.2⟩⟩
theorem chkF_iff {c : Bool} : ∀ {l : List S} {p : Option Int}, chkF c p l = 0 ↔ Good c l ∧ (∀ t ∈ p, ∀ y ∈ l, t < y.1)
  | [], p => ⟨fun _ => ⟨good_nil, fun t _ y h => (List.not_mem_nil h).elim⟩, fun _ => rfl⟩
  | x :: r, p => by
    have ih := chkF_iff (c := c) (l := r) (p := some x.1)
    unfold chkF
    rw [good_cons]
    by_cases h1 : (!okS x || (c && decide (x.2 < 0))) = true
    · rw [if_pos h1]
      refine ⟨fun h => by omega, fun h => ?_⟩
      exfalso
      obtain ⟨⟨⟨h2, h3⟩, _⟩, _⟩ := h
      rw [h2] at h1
      cases c with
      | false => simp at h1
      | true =>
        have h4 := h3 rfl
        simp at h1
        omega
    · rw [if_neg h1]
      have h2 : okS x = true ∧ (c = true → 0 ≤ x.2) := by
        cases hx : okS x with
        | false => rw [hx] at h1; simp at h1
        | true =>
          refine ⟨rfl, fun hc => ?_⟩
          rw [hx, hc] at h1
          simp at h1
          omega
      cases p with
      | none =>
        simp only [Bool.false_eq_true, if_false]
        rw [ih]
        refine ⟨fun h => ⟨⟨h2, fun y hy => h.2 x.1 rfl y hy, h.1⟩, fun t ht => by cases ht⟩, fun h => ⟨h.1.2.2, fun t ht y hy => ?_⟩⟩
        cases ht
        exact h.1.2.1 y hy
      | some t =>
        by_cases h3 : x.1 ≤ t
        · simp only [decide_eq_true h3, if_true]
          refine ⟨fun h => by omega, fun h => ?_⟩
          have := h.2 t rfl x (List.mem_cons_self ..)
          omega
        · simp only [decide_eq_false h3, Bool.false_eq_true, if_false]
          rw [ih]
          refine ⟨fun h => ⟨⟨h2, fun y hy => h.2 x.1 rfl y hy, h.1⟩, fun u hu y hy => ?_⟩, fun h => ⟨h.1.2.2, fun u hu y hy => ?_⟩⟩
          · cases hu
            rcases List.mem_cons.1 hy with rfl | hy
            · omega
            · have := h.2 x.1 rfl y hy
              omega
          · cases hu
            exact h.1.2.1 y hy
theorem chk_kind {k : Int} {l : List S} (h1 : k ≠ 1) (h2 : k ≠ 2) : chk k l = 8 := if_pos ⟨h1, h2⟩
theorem chk_one {l : List S} : chk 1 l = 0 ↔ l.length ≤ 2000 ∧ Good false l := by
  unfold chk
  rw [if_neg (by omega)]
  by_cases h : 2000 < l.length
  · rw [if_pos h]; omega
  · rw [if_neg h]
    have h2 : (decide ((1 : Int) = 2)) = false := by decide
    rw [h2, chkF_iff]
    exact ⟨fun h3 => ⟨by omega, h3.1⟩, fun h3 => ⟨h3.2, fun t ht => by cases ht⟩⟩
theorem chk_two {l : List S} : chk 2 l = 0 ↔ l.length ≤ 2000 ∧ Good true l := by
  unfold chk
  rw [if_neg (by omega)]
  by_cases h : 2000 < l.length
  · rw [if_pos h]; omega
  · rw [if_neg h]
    have h2 : (decide ((2 : Int) = 2)) = true := by decide
    rw [h2, chkF_iff]
    exact ⟨fun h3 => ⟨by omega, h3.1⟩, fun h3 => ⟨h3.2, fun t ht => by cases ht⟩⟩
theorem Good.weak {l : List S} (h : Good true l) : Good false l := ⟨fun x hx => ⟨(h.1 x hx).1, fun q => by cases q⟩, h.2⟩
/-- Two lists in ascending order with the same members are the same. -/
theorem asc_ext : ∀ {a b : List S}, Asc a → Asc b → (∀ z, z ∈ a ↔ z ∈ b) → a = b
  | [], [], _, _, _ => rfl
  | [], y :: b, _, _, h => ((List.not_mem_nil ((h y).2 (List.mem_cons_self ..)))).elim
  | x :: a, [], _, _, h => ((List.not_mem_nil ((h x).1 (List.mem_cons_self ..)))).elim
  | x :: a, y :: b, ha, hb, h => by
    rw [asc_cons] at ha hb
    have hxy : x = y := by
      rcases List.mem_cons.1 ((h x).1 (List.mem_cons_self ..)) with h1 | h1
      · exact h1
      · rcases List.mem_cons.1 ((h y).2 (List.mem_cons_self ..)) with h2 | h2
        · exact h2.symm
        · have := hb.1 x h1
          have := ha.1 y h2
          omega
    subst hxy
    rw [asc_ext ha.2 hb.2 fun z => ?_]
    refine ⟨fun hz => ?_, fun hz => ?_⟩
    · rcases List.mem_cons.1 ((h z).1 (List.mem_cons_of_mem _ hz)) with h1 | h1
      · have := ha.1 z hz
        rw [h1] at this
        omega
      · exact h1
    · rcases List.mem_cons.1 ((h z).2 (List.mem_cons_of_mem _ hz)) with h1 | h1
      · have := hb.1 z hz
        rw [h1] at this
        omega
      · exact h1
/-- Samples of one time in one ascending list are one. -/
theorem asc_one : ∀ {l : List S}, Asc l → ∀ {x y : S}, x ∈ l → y ∈ l → x.1 = y.1 → x = y
  | [], _, x, y, hx, _, _ => (List.not_mem_nil hx).elim
  | z :: l, h, x, y, hx, hy, hxy => by
    rw [asc_cons] at h
    rcases List.mem_cons.1 hx with h1 | h1 <;> rcases List.mem_cons.1 hy with h2 | h2
    · rw [h1, h2]
    · have := h.1 y h2; rw [h1] at hxy; omega
    · have := h.1 x h1; rw [h2] at hxy; omega
    · exact asc_one h.2 h1 h2 hxy
/-- The samples of both lists; none, if two of one time differ. -/
def mrg : List S → List S → Option (List S)
  | [], b => some b
  | x :: a, [] => some (x :: a)
  | x :: a, y :: b => if x.1 < y.1 then (mrg a (y :: b)).map (x :: ·) else if x.1 = y.1 then (if x.2 = y.2 then (mrg a b).map (y :: ·) else none) else (mrg (x :: a) b).map (y :: ·)
  termination_by a b => a.length + b.length
theorem mrg_nil {b : List S} : mrg [] b = some b := by rw [mrg]
theorem mrg_end {a : List S} : mrg a [] = some a := by cases a <;> rw [mrg]
theorem mrg_cc {x y : S} {a b : List S} : mrg (x :: a) (y :: b) = if x.1 < y.1 then (mrg a (y :: b)).map (x :: ·) else if x.1 = y.1 then (if x.2 = y.2 then (mrg a b).map (y :: ·) else none) else (mrg (x :: a) b).map (y :: ·) := by rw [mrg]
theorem mrg_lt {x y : S} {a b : List S} (h : x.1 < y.1) : mrg (x :: a) (y :: b) = (mrg a (y :: b)).map (x :: ·) := by rw [mrg_cc, if_pos h]
theorem mrg_gt {x y : S} {a b : List S} (h : y.1 < x.1) : mrg (x :: a) (y :: b) = (mrg (x :: a) b).map (y :: ·) := by rw [mrg_cc, if_neg (by omega), if_neg (by omega)]
theorem mrg_eq {x : S} {a b : List S} : mrg (x :: a) (x :: b) = (mrg a b).map (x :: ·) := by rw [mrg_cc, if_neg (by omega), if_pos rfl, if_pos rfl]
theorem mrg_clash {x y : S} {a b : List S} (h : x.1 = y.1) (h2 : x.2 ≠ y.2) : mrg (x :: a) (y :: b) = none := by rw [mrg_cc, if_neg (by omega), if_pos h, if_neg h2]
/-- What merging two lists in ascending order gives. -/
def Both (a b : List S) : Option (List S) → Prop
  | none => ∃ x ∈ a, ∃ y ∈ b, x.1 = y.1 ∧ x ≠ y
  | some r => Asc r ∧ (∀ z, z ∈ r ↔ z ∈ a ∨ z ∈ b) ∧ r.length ≤ a.length + b.length
theorem mrg_both : ∀ (n : Nat) {a b : List S}, a.length + b.length ≤ n → Asc a → Asc b → Both a b (mrg a b)
  | n, [], b, _, _, hb => by rw [mrg_nil]; exact ⟨hb, fun z => by simp, by simp⟩
  | n, x :: a, [], _, ha, _ => by rw [mrg_end]; exact ⟨ha, fun z => by simp, by simp⟩
  | 0, x :: a, y :: b, hn, _, _ => by simp at hn
  | n + 1, x :: a, y :: b, hn, ha, hb => by
    have ha2 := asc_cons.1 ha
    have hb2 := asc_cons.1 hb
    rw [List.length_cons, List.length_cons] at hn
    rcases Int.lt_trichotomy x.1 y.1 with h | h | h
    · rw [mrg_lt h]
      have ih := mrg_both n (a := a) (b := y :: b) (by rw [List.length_cons]; omega) ha2.2 hb
      revert ih
      cases mrg a (y :: b) with
      | none => exact fun ⟨p, hp, q, hq, h3⟩ => ⟨p, List.mem_cons_of_mem _ hp, q, hq, h3⟩
      | some r =>
        refine fun ⟨h3, h4, h5⟩ => ⟨asc_cons.2 ⟨fun z hz => ?_, h3⟩, fun z => ?_, ?_⟩
        · rcases (h4 z).1 hz with h6 | h6
          · exact ha2.1 z h6
          · rcases List.mem_cons.1 h6 with h7 | h7
            · rw [h7]; exact h
            · have := hb2.1 z h7; omega
        · rw [List.mem_cons, h4 z, List.mem_cons (a := z) (b := x)]
          exact or_assoc.symm
        · simp only [List.length_cons] at h5 ⊢; omega
    · by_cases h2 : x.2 = y.2
      · have hxy : x = y := Prod.ext h h2
        subst hxy
        rw [mrg_eq]
        have ih := mrg_both n (a := a) (b := b) (by omega) ha2.2 hb2.2
        revert ih
        cases mrg a b with
        | none => exact fun ⟨p, hp, q, hq, h3⟩ => ⟨p, List.mem_cons_of_mem _ hp, q, List.mem_cons_of_mem _ hq, h3⟩
        | some r =>
          refine fun ⟨h3, h4, h5⟩ => ⟨asc_cons.2 ⟨fun z hz => ?_, h3⟩, fun z => ?_, ?_⟩
          · rcases (h4 z).1 hz with h6 | h6
            · exact ha2.1 z h6
            · exact hb2.1 z h6
          · rw [List.mem_cons, h4 z, List.mem_cons, List.mem_cons]
            exact ⟨fun q => by rcases q with q | q | q <;> simp [q], fun q => by rcases q with (q | q) | (q | q) <;> simp [q]⟩
          · simp only [List.length_cons] at h5 ⊢; omega
      · rw [mrg_clash h h2]
        exact ⟨x, List.mem_cons_self .., y, List.mem_cons_self .., h, fun q => h2 (by rw [q])⟩
    · rw [mrg_gt h]
      have ih := mrg_both n (a := x :: a) (b := b) (by rw [List.length_cons]; omega) ha hb2.2
      revert ih
      cases mrg (x :: a) b with
      | none => exact fun ⟨p, hp, q, hq, h3⟩ => ⟨p, hp, q, List.mem_cons_of_mem _ hq, h3⟩
      | some r =>
        refine fun ⟨h3, h4, h5⟩ => ⟨asc_cons.2 ⟨fun z hz => ?_, h3⟩, fun z => ?_, ?_⟩
        · rcases (h4 z).1 hz with h6 | h6
          · rcases List.mem_cons.1 h6 with h7 | h7
            · rw [h7]; exact h
            · have := ha2.1 z h7; omega
          · exact hb2.1 z h6
        · rw [List.mem_cons, h4 z, List.mem_cons (a := z) (b := y)]
          exact or_left_comm
        · simp only [List.length_cons] at h5 ⊢; omega
theorem mrg_out {a b : List S} (ha : Asc a) (hb : Asc b) : Both a b (mrg a b) := mrg_both _ (Nat.le_refl _) ha hb
theorem mrg_some {a b r : List S} (ha : Asc a) (hb : Asc b) (h : mrg a b = some r) : Asc r ∧ (∀ z, z ∈ r ↔ z ∈ a ∨ z ∈ b) ∧ r.length ≤ a.length + b.length := by
  have := mrg_out ha hb
  rw [h] at this
  exact this
theorem mrg_none {a b : List S} (ha : Asc a) (hb : Asc b) : mrg a b = none ↔ ∃ x ∈ a, ∃ y ∈ b, x.1 = y.1 ∧ x ≠ y := by
  refine ⟨fun h => ?_, fun ⟨x, hx, y, hy, h1, h2⟩ => ?_⟩
  · have := mrg_out ha hb
    rw [h] at this
    exact this
  · cases h : mrg a b with
    | none => rfl
    | some r =>
      have h3 := mrg_some ha hb h
      exact (h2 (asc_one h3.1 ((h3.2.1 x).2 (.inl hx)) ((h3.2.1 y).2 (.inr hy)) h1)).elim
/-- What an ascending list of the samples of both is. -/
theorem mrg_is {a b r : List S} (ha : Asc a) (hb : Asc b) (hr : Asc r) (h : ∀ z, z ∈ r ↔ z ∈ a ∨ z ∈ b) : mrg a b = some r := by
  cases h2 : mrg a b with
  | none =>
    obtain ⟨x, hx, y, hy, h3, h4⟩ := (mrg_none ha hb).1 h2
    exact (h4 (asc_one hr ((h x).2 (.inl hx)) ((h y).2 (.inr hy)) h3)).elim
  | some q =>
    have h3 := mrg_some ha hb h2
    rw [asc_ext h3.1 hr fun z => by rw [h3.2.1 z, h z]]
theorem mrg_comm {a b : List S} (ha : Asc a) (hb : Asc b) : mrg a b = mrg b a := by
  cases h : mrg a b with
  | none =>
    obtain ⟨x, hx, y, hy, h1, h2⟩ := (mrg_none ha hb).1 h
    exact ((mrg_none hb ha).2 ⟨y, hy, x, hx, h1.symm, fun q => h2 q.symm⟩).symm
  | some r =>
    have h3 := mrg_some ha hb h
    exact (mrg_is hb ha h3.1 fun z => by rw [h3.2.1 z]; exact or_comm).symm
theorem mrg_self {a : List S} (ha : Asc a) : mrg a a = some a := mrg_is ha ha ha fun z => by simp
theorem mrg_assoc {a b c ab bc : List S} (ha : Asc a) (hb : Asc b) (hc : Asc c) (h1 : mrg a b = some ab) (h2 : mrg b c = some bc) : mrg ab c = mrg a bc := by
  have k1 := mrg_some ha hb h1
  have k2 := mrg_some hb hc h2
  cases h : mrg ab c with
  | none =>
    obtain ⟨x, hx, y, hy, h3, h4⟩ := (mrg_none k1.1 hc).1 h
    rcases (k1.2.1 x).1 hx with h5 | h5
    · exact ((mrg_none ha k2.1).2 ⟨x, h5, y, (k2.2.1 y).2 (.inr hy), h3, h4⟩).symm
    · have := (mrg_none hb hc).2 ⟨x, h5, y, hy, h3, h4⟩
      rw [h2] at this
      cases this
  | some r =>
    have k3 := mrg_some k1.1 hc h
    exact (mrg_is ha k2.1 k3.1 fun z => by rw [k3.2.1 z, k1.2.1 z, k2.2.1 z]; exact or_assoc).symm
/-- The part of a list in a range of times. -/
def slcL (l : List S) (f t : Int) : List S := l.filter fun x => decide (f < x.1) && decide (x.1 ≤ t)
theorem slc_mem {l : List S} {f t : Int} {x : S} : x ∈ slcL l f t ↔ x ∈ l ∧ f < x.1 ∧ x.1 ≤ t := by
  unfold slcL
  rw [List.mem_filter, Bool.and_eq_true, decide_eq_true_eq, decide_eq_true_eq]
theorem slc_asc {l : List S} {f t : Int} (h : Asc l) : Asc (slcL l f t) := List.Pairwise.filter _ h
theorem slc_len (l : List S) (f t : Int) : (slcL l f t).length ≤ l.length := List.length_filter_le ..
theorem slc_good {c : Bool} {l : List S} {f t : Int} (h : Good c l) : Good c (slcL l f t) := ⟨fun x hx => h.1 x (slc_mem.1 hx).1, slc_asc h.2⟩
theorem slc_all {l : List S} {t : Int} (h : Good false l) (h1 : 0 ≤ t) (h2 : t ≤ 1099511627776) : slcL l 0 t ++ slcL l t 1099511627776 = l := by
  refine asc_ext (List.pairwise_append.2 ⟨slc_asc h.2, slc_asc h.2, fun x hx y hy => ?_⟩) h.2 fun z => ?_
  · have := (slc_mem.1 hx).2.2
    have := (slc_mem.1 hy).2.1
    omega
  · rw [List.mem_append, slc_mem, slc_mem]
    refine ⟨fun q => by rcases q with q | q <;> exact q.1, fun q => ?_⟩
    have h3 := okS_iff.1 (h.1 z q).1
    by_cases h4 : z.1 ≤ t
    · exact .inl ⟨q, by omega, h4⟩
    · exact .inr ⟨q, by omega, h3.2.1⟩
theorem slc_mrg {a b ab : List S} {f t : Int} (ha : Asc a) (hb : Asc b) (h : mrg a b = some ab) : mrg (slcL a f t) (slcL b f t) = some (slcL ab f t) := by
  have k := mrg_some ha hb h
  refine mrg_is (slc_asc ha) (slc_asc hb) (slc_asc k.1) fun z => ?_
  rw [slc_mem, slc_mem, slc_mem, k.2.1 z]
  rw [or_and_right]
end Go.Proofs.Ytobipbedkkmlcaa.Sr
