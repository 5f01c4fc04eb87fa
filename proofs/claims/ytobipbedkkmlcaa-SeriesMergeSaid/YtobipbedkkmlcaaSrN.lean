/- Layer 11, ahead: inserting and removing a sample; the increase of a counter. -/
import Derived.Test.YtobipbedkkmlcaaSrM
set_option linter.unusedVariables false
set_option linter.unusedSimpArgs false
namespace Go.Proofs.Ytobipbedkkmlcaa.Sr
theorem Good.sub {c : Bool} {l m : List S} (h : Good c l) (hs : m.Sublist l) : Good c m := ⟨fun x hx => h.1 x (hs.subset hx), h.2.sublist hs⟩
/-- The place of the first sample that is not before a time. -/
def plc : List S → Int → Nat
  | [], _ => 0
  | x :: l, t => if x.1 < t then plc l t + 1 else 0
theorem plc_le : ∀ (l : List S) (t : Int), plc l t ≤ l.length
  | [], t => Nat.le_refl _
  | x :: l, t => by
    unfold plc
    split
    · have := plc_le l t
      rw [List.length_cons]
      omega
    · omega
theorem plc_is : ∀ {l : List S} {t : Int} {k : Nat}, k ≤ l.length → (∀ i, i < k → ∀ y, l[i]? = some y → y.1 < t) → (∀ y, l[k]? = some y → t ≤ y.1) → plc l t = k
  | [], t, k, hk, _, _ => by
    have : k = 0 := by simpa using hk
    rw [this]
    rfl
  | x :: l, t, 0, _, _, h => by
    have := h x rfl
    unfold plc
    rw [if_neg (by omega)]
  | x :: l, t, k + 1, hk, h1, h2 => by
    have h3 := h1 0 (by omega) x rfl
    unfold plc
    rw [if_pos h3, plc_is (k := k) (by rw [List.length_cons] at hk; omega) (fun i hi y hy => h1 (i + 1) (by omega) y (by simpa using hy)) (fun y hy => h2 y (by simpa using hy))]
theorem plc_before : ∀ {l : List S} {t : Int} {x : S}, x ∈ l.take (plc l t) → x.1 < t
  | [], t, x, h => by simp [plc] at h
  | y :: l, t, x, h => by
    unfold plc at h
    split at h
    · rename_i h1
      rcases List.mem_cons.1 (by simpa using h) with h2 | h2
      · rw [h2]; exact h1
      · exact plc_before h2
    · simp at h
theorem plc_behind : ∀ {l : List S} {t : Int}, Asc l → ∀ {x : S}, x ∈ l.drop (plc l t) → t ≤ x.1
  | [], t, _, x, h => by simp at h
  | y :: l, t, ha, x, h => by
    unfold plc at h
    rw [asc_cons] at ha
    split at h
    · exact plc_behind ha.2 (by simpa using h)
    · rename_i h1
      rcases List.mem_cons.1 (by simpa using h) with h2 | h2
      · rw [h2]; omega
      · have := ha.1 x h2
        omega
/-- The value at a time. -/
def hit (l : List S) (t : Int) : Option Int := match l[plc l t]? with | some y => if y.1 = t then some y.2 else none | none => none
theorem mem_part (l : List S) (k : Nat) {z : S} : z ∈ l ↔ z ∈ l.take k ∨ z ∈ l.drop k := by
  rw [← List.mem_append, List.take_append_drop]
theorem drop_at {l : List S} {k : Nat} {y : S} (h : l[k]? = some y) : l.drop k = y :: l.drop (k + 1) := by
  obtain ⟨h1, h2⟩ := List.getElem?_eq_some_iff.1 h
  rw [List.drop_eq_getElem_cons h1, h2]
theorem hit_some {l : List S} {t v : Int} (ha : Asc l) : hit l t = some v ↔ (t, v) ∈ l := by
  unfold hit
  refine ⟨fun h => ?_, fun h => ?_⟩
  · cases hy : l[plc l t]? with
    | none => rw [hy] at h; cases h
    | some y =>
      rw [hy] at h
      by_cases h1 : y.1 = t
      · simp only [h1, if_true, Option.some.injEq] at h
        have : y = (t, v) := Prod.ext h1 h
        rw [← this]
        exact List.mem_of_getElem? hy
      · simp only [h1, if_false] at h
        cases h
  · rcases (mem_part l (plc l t)).1 h with h1 | h1
    · have := plc_before h1
      simp only at this
      omega
    · cases hy : l[plc l t]? with
      | none =>
        rw [List.drop_eq_nil_of_le (List.getElem?_eq_none_iff.1 hy)] at h1
        exact (List.not_mem_nil h1).elim
      | some y =>
        have h2 : t ≤ y.1 := plc_behind ha (by rw [drop_at hy]; exact List.mem_cons_self ..)
        have h3 : y = (t, v) := by
          rw [drop_at hy] at h1
          rcases List.mem_cons.1 h1 with h4 | h4
          · exact h4.symm
          · have h5 : Asc (y :: l.drop (plc l t + 1)) := by
              rw [← drop_at hy]
              exact ha.sublist (List.drop_sublist ..)
            have := (asc_cons.1 h5).1 _ h4
            simp only at this
            omega
        rw [h3]
        simp
theorem hit_none {l : List S} {t : Int} (ha : Asc l) : hit l t = none ↔ ∀ y ∈ l, y.1 ≠ t := by
  refine ⟨fun h y hy h1 => ?_, fun h => ?_⟩
  · have : hit l t = some y.2 := (hit_some ha).2 (by rw [← h1]; exact hy)
    rw [h] at this
    cases this
  · cases h1 : hit l t with
    | none => rfl
    | some v => exact (h _ ((hit_some ha).1 h1) rfl).elim
def insL (l : List S) (x : S) : List S := l.take (plc l x.1) ++ x :: l.drop (plc l x.1)
def remL (l : List S) (t : Int) : List S := l.take (plc l t) ++ l.drop (plc l t + 1)
theorem ins_mem {l : List S} {x z : S} : z ∈ insL l x ↔ z = x ∨ z ∈ l := by
  unfold insL
  rw [List.mem_append, List.mem_cons, mem_part l (plc l x.1)]
  exact or_left_comm
theorem ins_len (l : List S) (x : S) : (insL l x).length = l.length + 1 := by
  unfold insL
  rw [List.length_append, List.length_cons, List.length_take, List.length_drop]
  have := plc_le l x.1
  omega
theorem ins_asc {l : List S} {x : S} (ha : Asc l) (h : hit l x.1 = none) : Asc (insL l x) := by
  have hn := (hit_none ha).1 h
  unfold insL Asc
  rw [List.pairwise_append]
  refine ⟨ha.sublist (List.take_sublist ..), asc_cons.2 ⟨fun y hy => ?_, ha.sublist (List.drop_sublist ..)⟩, fun a h1 b h2 => ?_⟩
  · have := plc_behind ha hy
    have := hn y (List.mem_of_mem_drop hy)
    omega
  · have h3 := plc_before h1
    rcases List.mem_cons.1 h2 with h4 | h4
    · rw [h4]; exact h3
    · have := plc_behind ha h4
      omega
theorem ins_good {c : Bool} {l : List S} {x : S} (hl : Good c l) (h : hit l x.1 = none) (hx : okS x = true) (hc : c = true → 0 ≤ x.2) : Good c (insL l x) := by
  refine ⟨fun z hz => ?_, ins_asc hl.2 h⟩
  rcases ins_mem.1 hz with h1 | h1
  · rw [h1]; exact ⟨hx, hc⟩
  · exact hl.1 z h1
theorem rem_mem {l : List S} {t v z} (ha : Asc l) (h : hit l t = some v) : z ∈ remL l t ↔ z ∈ l ∧ z.1 ≠ t := by
  have h0 : ∃ y, l[plc l t]? = some y ∧ y.1 = t := by
    unfold hit at h
    cases hy : l[plc l t]? with
    | none => rw [hy] at h; cases h
    | some y =>
      rw [hy] at h
      by_cases h1 : y.1 = t
      · exact ⟨y, rfl, h1⟩
      · simp only [h1, if_false] at h
        cases h
  obtain ⟨y, hy, hyt⟩ := h0
  have h5 : Asc (y :: l.drop (plc l t + 1)) := by
    rw [← drop_at hy]
    exact ha.sublist (List.drop_sublist ..)
  unfold remL
  rw [List.mem_append, mem_part l (plc l t), drop_at hy, List.mem_cons]
  refine ⟨fun q => ?_, fun ⟨q, r⟩ => ?_⟩
  · rcases q with q | q
    · have := plc_before q
      exact ⟨.inl q, by omega⟩
    · have := (asc_cons.1 h5).1 z q
      exact ⟨.inr (.inr q), by omega⟩
  · rcases q with q | q | q
    · exact .inl q
    · rw [q] at r
      exact (r hyt).elim
    · exact .inr q
theorem rem_sub (l : List S) (t : Int) : (remL l t).Sublist l := by
  unfold remL
  conv => rhs; rw [← List.take_append_drop (plc l t) l]
  refine List.Sublist.append (List.Sublist.refl _) ?_
  rw [← List.drop_drop]
  exact List.drop_sublist ..
theorem hit_ins {l : List S} {x : S} (ha : Asc l) (h : hit l x.1 = none) : hit (insL l x) x.1 = some x.2 := (hit_some (ins_asc ha h)).2 (ins_mem.2 (.inl rfl))
theorem hit_other {l : List S} {x : S} {t : Int} (ha : Asc l) (h : hit l x.1 = none) (h2 : x.1 ≠ t) : hit (insL l x) t = hit l t := by
  cases h3 : hit l t with
  | none =>
    refine (hit_none (ins_asc ha h)).2 fun y hy => ?_
    rcases ins_mem.1 hy with h4 | h4
    · rw [h4]; exact h2
    · exact (hit_none ha).1 h3 y h4
  | some v => exact (hit_some (ins_asc ha h)).2 (ins_mem.2 (.inr ((hit_some ha).1 h3)))
/-- Removing what was inserted leads back. -/
theorem rem_ins {l : List S} {x : S} (ha : Asc l) (h : hit l x.1 = none) : remL (insL l x) x.1 = l := by
  refine asc_ext ((ins_asc ha h).sublist (rem_sub ..)) ha fun z => ?_
  rw [rem_mem (ins_asc ha h) (hit_ins ha h), ins_mem]
  refine ⟨fun ⟨q, r⟩ => ?_, fun q => ⟨.inr q, (hit_none ha).1 h z q⟩⟩
  rcases q with q | q
  · rw [q] at r
    exact (r rfl).elim
  · exact q
/-- Samples with different times, in either order. -/
theorem ins_comm {l : List S} {x y : S} (ha : Asc l) (hx : hit l x.1 = none) (hy : hit l y.1 = none) (h : x.1 ≠ y.1) : insL (insL l x) y = insL (insL l y) x := by
  refine asc_ext (ins_asc (ins_asc ha hx) (by rw [hit_other ha hx h]; exact hy)) (ins_asc (ins_asc ha hy) (by rw [hit_other ha hy fun q => h q.symm]; exact hx)) fun z => ?_
  rw [ins_mem, ins_mem, ins_mem, ins_mem]
  exact or_left_comm
/-- What Insert, Remove and Merge return: a list and an error. -/
def insO (l : List S) (x : S) : List S × Nat := if chk 1 l ≠ 0 then ([], 1) else if okS x = false then ([], 2) else match hit l x.1 with
  | some v => if v = x.2 then ([], 6) else ([], 16)
  | none => if 2000 ≤ l.length then ([], 4) else (insL l x, 0)
def remO (l : List S) (t : Int) : List S × Nat := if chk 1 l ≠ 0 then ([], 1) else match hit l t with
  | some _ => (remL l t, 0)
  | none => ([], 7)
def mrgO (a b : List S) : List S × Nat := if chk 1 a ≠ 0 ∨ chk 1 b ≠ 0 then ([], 1) else match mrg a b with
  | none => ([], 16)
  | some r => if 2000 < r.length then ([], 4) else (r, 0)
theorem insO_cases (l : List S) (x : S) : ((insO l x).1 = [] ∧ (insO l x).2 ≠ 0) ∨ (insO l x = (insL l x, 0) ∧ chk 1 l = 0 ∧ okS x = true ∧ hit l x.1 = none ∧ l.length < 2000) := by
  unfold insO
  by_cases h1 : chk 1 l ≠ 0
  · rw [if_pos h1]; exact .inl ⟨rfl, by decide⟩
  · rw [if_neg h1]
    cases h2 : okS x with
    | false =>
      rw [if_pos rfl]
      exact .inl ⟨rfl, by decide⟩
    | true =>
      rw [if_neg (by decide)]
      cases h3 : hit l x.1 with
      | some v =>
        simp only
        split <;> exact .inl ⟨rfl, by decide⟩
      | none =>
        simp only
        by_cases h4 : 2000 ≤ l.length
        · rw [if_pos h4]; exact .inl ⟨rfl, by decide⟩
        · rw [if_neg h4]; exact .inr ⟨rfl, by omega, trivial, trivial, by omega⟩
theorem insO_ok {l : List S} {x : S} (h1 : chk 1 l = 0) (h2 : okS x = true) (h3 : hit l x.1 = none) (h4 : l.length < 2000) : insO l x = (insL l x, 0) := by
  unfold insO
  rw [if_neg (by omega), if_neg (by rw [h2]; decide), h3]
  simp only
  rw [if_neg (by omega)]
theorem insO_exists {l : List S} {x : S} (h1 : chk 1 l = 0) (h2 : okS x = true) (h3 : hit l x.1 = some x.2) : insO l x = ([], 6) := by
  unfold insO
  rw [if_neg (by omega), if_neg (by rw [h2]; decide), h3]
  simp only
  rw [if_pos trivial]
theorem chk_ins {l : List S} {x : S} (h1 : chk 1 l = 0) (h2 : okS x = true) (h3 : hit l x.1 = none) (h4 : l.length < 2000) : chk 1 (insL l x) = 0 := by
  have h := chk_one.1 h1
  exact chk_one.2 ⟨by rw [ins_len]; omega, ins_good h.2 h3 h2 fun q => by cases q⟩
theorem remO_ins {l : List S} {x : S} (h1 : chk 1 l = 0) (h2 : okS x = true) (h3 : hit l x.1 = none) (h4 : l.length < 2000) : remO (insL l x) x.1 = (l, 0) := by
  have h := (chk_one.1 h1).2.2
  unfold remO
  rw [if_neg (by rw [chk_ins h1 h2 h3 h4]; omega), hit_ins h h3]
  simp only
  rw [rem_ins h h3]
/-- The increase from one value to the next one. -/
def step (a b : Int) : Int := if b < a then b else b - a
def incF : List S → Int
  | x :: y :: r => step x.2 y.2 + incF (y :: r)
  | _ => 0
def rstF : List S → Nat
  | x :: y :: r => (if y.2 < x.2 then 1 else 0) + rstF (y :: r)
  | _ => 0
theorem inc_cons (x y : S) (r : List S) : incF (x :: y :: r) = step x.2 y.2 + incF (y :: r) := by rw [incF]
theorem rst_cons (x y : S) (r : List S) : rstF (x :: y :: r) = (if y.2 < x.2 then 1 else 0) + rstF (y :: r) := by rw [rstF]
theorem inc_one (x : S) : incF [x] = 0 := by simp [incF]
theorem rst_one (x : S) : rstF [x] = 0 := by simp [rstF]
theorem inc_app : ∀ (a : List S) (x : S) (b : List S), incF (a ++ x :: b) = incF (a ++ [x]) + incF (x :: b)
  | [], x, b => by rw [List.nil_append, List.nil_append, inc_one]; omega
  | [y], x, b => by
    show incF (y :: x :: b) = incF [y, x] + _
    rw [inc_cons, inc_cons, inc_one]
    omega
  | y :: z :: a, x, b => by
    have ih := inc_app (z :: a) x b
    show incF (y :: z :: (a ++ x :: b)) = incF (y :: z :: (a ++ [x])) + _
    rw [inc_cons, inc_cons]
    simp only [List.cons_append] at ih
    omega
theorem rst_app : ∀ (a : List S) (x : S) (b : List S), rstF (a ++ x :: b) = rstF (a ++ [x]) + rstF (x :: b)
  | [], x, b => by rw [List.nil_append, List.nil_append, rst_one]; omega
  | [y], x, b => by
    show rstF (y :: x :: b) = rstF [y, x] + _
    rw [rst_cons, rst_cons, rst_one]
    omega
  | y :: z :: a, x, b => by
    have ih := rst_app (z :: a) x b
    show rstF (y :: z :: (a ++ x :: b)) = rstF (y :: z :: (a ++ [x])) + _
    rw [rst_cons, rst_cons]
    simp only [List.cons_append] at ih
    omega
theorem take_snoc {l : List S} {k : Nat} (h : k < l.length) : l.take (k + 1) = l.take k ++ [l[k]] := by
  rw [List.take_add_one, List.getElem?_eq_getElem h]
  rfl
/-- Up to a sample, and from this one on. -/
theorem inc_split {l : List S} {k : Nat} (h : k < l.length) : incF l = incF (l.take (k + 1)) + incF (l.drop k) ∧ rstF l = rstF (l.take (k + 1)) + rstF (l.drop k) := by
  have h1 : l = l.take k ++ l[k] :: l.drop (k + 1) := by
    rw [← List.drop_eq_getElem_cons h, List.take_append_drop]
  have h2 : l.drop k = l[k] :: l.drop (k + 1) := List.drop_eq_getElem_cons h
  rw [take_snoc h, h2]
  exact ⟨(congrArg incF h1).trans (inc_app ..), (congrArg rstF h1).trans (rst_app ..)⟩
/-- One round of the loop over neighbours. -/
theorem inc_round {l : List S} {k : Nat} (h : k + 1 < l.length) : incF (l.take (k + 2)) = incF (l.take (k + 1)) + step (l[k]'(by omega)).2 (l[k + 1]).2 ∧ rstF (l.take (k + 2)) = rstF (l.take (k + 1)) + (if (l[k + 1]).2 < (l[k]'(by omega)).2 then 1 else 0) := by
  rw [take_snoc h, take_snoc (k := k) (by omega), List.append_assoc]
  refine ⟨(inc_app (l.take k) _ [l[k + 1]]).trans ?_, (rst_app (l.take k) _ [l[k + 1]]).trans ?_⟩
  · rw [inc_cons, inc_one]; omega
  · rw [rst_cons, rst_one]; omega
theorem inc_low : ∀ {x : S} {r : List S}, (∀ z ∈ x :: r, 0 ≤ z.2) → ∀ {e : S}, (x :: r).getLast? = some e → 0 ≤ incF (x :: r) ∧ e.2 ≤ incF (x :: r) + x.2 ∧ (rstF (x :: r) = 0 → e.2 = incF (x :: r) + x.2) ∧ rstF (x :: r) ≤ r.length
  | x, [], h, e, he => by
    have : x = e := by simpa using he
    rw [inc_one, rst_one, this]
    exact ⟨by omega, by omega, fun _ => by omega, by simp⟩
  | x, y :: r, h, e, he => by
    have ih := inc_low (x := y) (r := r) (fun z hz => h z (List.mem_cons_of_mem _ hz)) (e := e) (by rw [← he, List.getLast?_cons_cons])
    have h1 := h x (by simp)
    have h2 := h y (by simp)
    rw [inc_cons, rst_cons, List.length_cons]
    unfold step
    by_cases h3 : y.2 < x.2
    · rw [if_pos h3, if_pos h3]
      exact ⟨by omega, by omega, fun q => by omega, by omega⟩
    · rw [if_neg h3, if_neg h3]
      exact ⟨by omega, by omega, fun q => by omega, by omega⟩
theorem inc_high : ∀ {l : List S}, (∀ z ∈ l, 0 ≤ z.2 ∧ z.2 ≤ 1099511627776) → 0 ≤ incF l ∧ incF l ≤ l.length * 1099511627776
  | [], _ => by simp [incF]
  | [x], _ => by rw [inc_one]; simp
  | x :: y :: r, h => by
    have ih := inc_high (l := y :: r) fun z hz => h z (List.mem_cons_of_mem _ hz)
    have h1 := h x (by simp)
    have h2 := h y (by simp)
    rw [inc_cons]
    simp only [List.length_cons] at ih ⊢
    unfold step
    split <;> exact ⟨by omega, by omega⟩
/-- A sample between its neighbours may be left out. -/
theorem inc_between {a b : List S} {x y z : S} (h1 : x.2 ≤ y.2) (h2 : y.2 ≤ z.2) : incF (a ++ x :: y :: z :: b) = incF (a ++ x :: z :: b) ∧ rstF (a ++ x :: y :: z :: b) = rstF (a ++ x :: z :: b) := by
  rw [inc_app a x, inc_app a x (z :: b), rst_app a x, rst_app a x (z :: b), inc_cons, inc_cons, inc_cons, rst_cons, rst_cons, rst_cons]
  unfold step
  rw [if_neg (by omega), if_neg (by omega), if_neg (by omega), if_neg (by omega), if_neg (by omega), if_neg (by omega)]
  exact ⟨by omega, by omega⟩
def incO (l : List S) : Int := if chk 2 l ≠ 0 then 0 else incF l
def rstO (l : List S) : Nat := if chk 2 l ≠ 0 then 0 else rstF l
theorem incO_sub {l m : List S} (h : chk 2 l = 0) (hs : m.Sublist l) : incO m = incF m ∧ rstO m = rstF m := by
  have h1 := chk_two.1 h
  have h2 : chk 2 m = 0 := chk_two.2 ⟨Nat.le_trans hs.length_le h1.1, h1.2.sub hs⟩
  exact ⟨if_neg (by omega), if_neg (by omega)⟩
end Go.Proofs.Ytobipbedkkmlcaa.Sr
