/- Layer 10, ahead: strings in order, dictionaries, runs, the encoding; of no seat's code. -/
import Derived.Test.YtpinmmmbmhfmiaaLow
import Derived.Test.YtpinmmmbmhfmiaaListMath
import Derived.Lib.Varint
set_option linter.unusedVariables false
set_option linter.unusedSimpArgs false
namespace Go.Proofs.Ytpinmmmbmhfmiaa.Dt
abbrev BA := ByteArray
/-- Less, of lists of bytes. -/
theorem bl_nil (b : List UInt8) : Op.bytesLess b [] = false := by cases b <;> rfl
theorem bl_cons (x y : UInt8) (a b : List UInt8) : Op.bytesLess (x :: a) (y :: b) = true ↔ x.toNat < y.toNat ∨ (x.toNat = y.toNat ∧ Op.bytesLess a b = true) := by
  rw [Op.bytesLess, Bool.or_eq_true, decide_eq_true_iff, Bool.and_eq_true, beq_iff_eq, UInt8.lt_iff_toNat_lt, UInt8.toNat_inj]
theorem bl_irr : ∀ a : List UInt8, Op.bytesLess a a = false
  | [] => rfl
  | x :: a => by
    rw [← Bool.not_eq_true, bl_cons, bl_irr a]
    simp
theorem bl_trans : ∀ a b c : List UInt8, Op.bytesLess a b = true → Op.bytesLess b c = true → Op.bytesLess a c = true
  | a, [], c, h, _ => by rw [bl_nil] at h; cases h
  | a, y :: b, [], _, h => by rw [bl_nil] at h; cases h
  | [], y :: b, z :: c, _, _ => rfl
  | x :: a, y :: b, z :: c, h, k => by
    rw [bl_cons] at h k ⊢
    rcases h with h | ⟨h, h2⟩ <;> rcases k with k | ⟨k, k2⟩
    · exact .inl (by omega)
    · exact .inl (by omega)
    · exact .inl (by omega)
    · exact .inr ⟨by omega, bl_trans a b c h2 k2⟩
theorem bl_total : ∀ a b : List UInt8, Op.bytesLess a b = false → Op.bytesLess b a = false → a = b
  | [], [], _, _ => rfl
  | [], y :: b, h, _ => by cases h
  | x :: a, [], _, h => by cases h
  | x :: a, y :: b, h, k => by
    rw [← Bool.not_eq_true, bl_cons] at h k
    have e : x.toNat = y.toNat := by
      rcases Nat.lt_trichotomy x.toNat y.toNat with h1 | h1 | h1
      · exact absurd (.inl h1) h
      · exact h1
      · exact absurd (.inl h1) k
    have e2 : x = y := UInt8.toNat_inj.1 e
    subst e2
    have h2 : Op.bytesLess a b = false := by
      rw [← Bool.not_eq_true]; exact fun q => h (.inr ⟨rfl, q⟩)
    have k2 : Op.bytesLess b a = false := by
      rw [← Bool.not_eq_true]; exact fun q => k (.inr ⟨rfl, q⟩)
    rw [bl_total a b h2 k2]
theorem ba_inj {a b : BA} (h : a.toList = b.toList) : a = b := by
  rw [ByteArray.toList_eq, ByteArray.toList_eq] at h
  exact ByteArray.ext (Array.toList_inj.1 h)
theorem ba_eq {a b : BA} : (a.toList == b.toList) = decide (a = b) := by
  by_cases h : a = b
  · rw [h, decide_eq_true rfl]
    simp
  · rw [decide_eq_false h, beq_eq_false_iff_ne]
    exact fun e => h (ba_inj e)
def ltS (a b : BA) : Bool := Op.bytesLess a.toList b.toList
theorem ltS_irr (a : BA) : ltS a a = false := bl_irr _
theorem ltS_trans {a b c : BA} (h : ltS a b = true) (k : ltS b c = true) : ltS a c = true := bl_trans _ _ _ h k
theorem ltS_total {a b : BA} (h : ltS a b = false) (k : ltS b a = false) : a = b := ba_inj (bl_total _ _ h k)
theorem ltS_ne {a b : BA} (h : ltS a b = true) : a ≠ b := fun e => by rw [e, ltS_irr] at h; cases h
/-- Strictly ascending. -/
def asc (l : List BA) : Prop := l.Pairwise fun a b => ltS a b = true
theorem asc_nodup {l : List BA} (h : asc l) : l.Nodup := List.Pairwise.imp (fun h => ltS_ne h) h
theorem asc_unique : ∀ {a b : List BA}, asc a → asc b → (∀ x, x ∈ a ↔ x ∈ b) → a = b
  | [], [], _, _, _ => rfl
  | [], y :: b, _, _, h => absurd ((h y).2 (List.mem_cons_self ..)) (by simp)
  | x :: a, [], _, _, h => absurd ((h x).1 (List.mem_cons_self ..)) (by simp)
  | x :: a, y :: b, ha, hb, h => by
    have ha' := List.pairwise_cons.1 ha
    have hb' := List.pairwise_cons.1 hb
    have e : x = y := by
      rcases List.mem_cons.1 ((h x).1 (List.mem_cons_self ..)) with e | hx
      · exact e
      · rcases List.mem_cons.1 ((h y).2 (List.mem_cons_self ..)) with e | hy
        · exact e.symm
        · have h1 := hb'.1 x hx
          have h2 := ha'.1 y hy
          have := ltS_trans h1 h2
          rw [ltS_irr] at this
          cases this
    subst e
    rw [asc_unique ha'.2 hb'.2 fun z => ?_]
    have hz := h z
    rw [List.mem_cons, List.mem_cons] at hz
    constructor
    · intro hm
      rcases hz.1 (.inr hm) with e | hm2
      · subst e
        have := ha'.1 z hm
        rw [ltS_irr] at this
        cases this
      · exact hm2
    · intro hm
      rcases hz.2 (.inr hm) with e | hm2
      · subst e
        have := hb'.1 z hm
        rw [ltS_irr] at this
        cases this
      · exact hm2
/-- Where s is to stand. -/
def posN (s : BA) : List BA → Nat
  | [] => 0
  | x :: d => if ltS x s = true then posN s d + 1 else 0
def insD (s : BA) (d : List BA) : List BA := d.take (posN s d) ++ s :: d.drop (posN s d)
theorem posN_le (s : BA) : ∀ d : List BA, posN s d ≤ d.length
  | [] => Nat.le_refl _
  | x :: d => by
    unfold posN
    by_cases h : ltS x s = true
    · rw [if_pos h, List.length_cons]
      have := posN_le s d
      omega
    · rw [if_neg h]
      exact Nat.zero_le _
theorem posN_is (s : BA) : ∀ (d : List BA) (k : Nat), k ≤ d.length → (∀ j, j < k → ∀ h : j < d.length, ltS d[j] s = true) → (∀ h : k < d.length, ltS d[k] s = false) → posN s d = k
  | [], k, h, _, _ => by
    have : k = 0 := by simpa using h
    rw [this]
    rfl
  | x :: d, 0, _, _, h => by
    have := h (by simp)
    unfold posN
    rw [if_neg (by simpa using this)]
  | x :: d, k + 1, hk, h1, h2 => by
    have h0 := h1 0 (by omega) (by simp)
    unfold posN
    rw [if_pos (by simpa using h0), posN_is s d k (by simpa using hk) (fun j hj h => by have := h1 (j + 1) (by omega) (by simpa using h); simpa using this) (fun h => by have := h2 (by simpa using h); simpa using this)]
theorem insD_mem (s : BA) (d : List BA) (x : BA) : x ∈ insD s d ↔ x = s ∨ x ∈ d := by
  unfold insD
  have e := List.take_append_drop (posN s d) d
  rw [List.mem_append, List.mem_cons]
  have h : x ∈ d ↔ x ∈ d.take (posN s d) ∨ x ∈ d.drop (posN s d) := by
    rw [← List.mem_append, e]
  rw [h]
  constructor
  · rintro (h | h | h)
    · exact .inr (.inl h)
    · exact .inl h
    · exact .inr (.inr h)
  · rintro (h | h | h)
    · exact .inr (.inl h)
    · exact .inl h
    · exact .inr (.inr h)
theorem insD_asc (s : BA) : ∀ d : List BA, asc d → s ∉ d → asc (insD s d)
  | [], _, _ => List.pairwise_singleton ..
  | x :: d, h, hn => by
    have h' := List.pairwise_cons.1 h
    have hx : x ≠ s := fun e => hn (by rw [e]; exact List.mem_cons_self ..)
    have hs : s ∉ d := fun e => hn (List.mem_cons_of_mem _ e)
    by_cases hl : ltS x s = true
    · have ih := insD_asc s d h'.2 hs
      have e : insD s (x :: d) = x :: insD s d := by
        have hp : posN s (x :: d) = posN s d + 1 := by rw [posN, if_pos hl]
        unfold insD
        rw [hp, List.take_succ_cons, List.drop_succ_cons]
        rfl
      rw [e]
      refine List.pairwise_cons.2 ⟨fun y hy => ?_, ih⟩
      rcases (insD_mem s d y).1 hy with rfl | hy
      · exact hl
      · exact h'.1 y hy
    · have e : insD s (x :: d) = s :: x :: d := by
        have hp : posN s (x :: d) = 0 := by rw [posN, if_neg hl]
        unfold insD
        rw [hp]
        rfl
      have hsx : ltS s x = true := by
        cases hq : ltS s x with
        | true => rfl
        | false => exact absurd (ltS_total (by simpa using hl) hq) hx
      rw [e]
      refine List.pairwise_cons.2 ⟨fun y hy => ?_, h⟩
      rcases List.mem_cons.1 hy with rfl | hy
      · exact hsx
      · exact ltS_trans hsx (h'.1 y hy)
/-- The index of a string, or -1. -/
def idxI (s : BA) : List BA → Int
  | [] => -1
  | x :: d => if x = s then 0 else if idxI s d < 0 then -1 else idxI s d + 1
theorem idxI_none {s : BA} : ∀ {d : List BA}, (∀ j (h : j < d.length), d[j] ≠ s) → idxI s d = -1
  | [], _ => rfl
  | x :: d, h => by
    have h0 := h 0 (by simp)
    unfold idxI
    rw [if_neg (by simpa using h0), idxI_none (d := d) fun j hj => by have := h (j + 1) (by simpa using hj); simpa using this]
    rfl
theorem idxI_at {s : BA} : ∀ {d : List BA} {k : Nat}, (hk : k < d.length) → d[k] = s → (∀ j (h : j < k), d[j]'(by omega) ≠ s) → idxI s d = k
  | x :: d, 0, _, h, _ => by
    unfold idxI
    rw [if_pos (by simpa using h)]
    rfl
  | x :: d, k + 1, hk, h, hn => by
    have h0 := hn 0 (by omega)
    have ih := idxI_at (s := s) (d := d) (k := k) (by simpa using hk) (by simpa using h) fun j hj => by have := hn (j + 1) (by omega); simpa using this
    unfold idxI
    rw [if_neg (by simpa using h0), ih, if_neg (by omega)]
    omega
theorem idxI_mem {s : BA} : ∀ {d : List BA}, s ∈ d → ∃ k : Nat, idxI s d = (k : Int) ∧ ∃ h : k < d.length, d[k] = s
  | x :: d, h => by
    unfold idxI
    by_cases e : x = s
    · rw [if_pos e]
      exact ⟨0, rfl, by simp, by simpa using e⟩
    · rw [if_neg e]
      obtain ⟨k, h1, h2, h3⟩ := idxI_mem (s := s) (d := d) (by rcases List.mem_cons.1 h with h | h; exact absurd h.symm e; exact h)
      rw [h1, if_neg (by omega)]
      exact ⟨k + 1, by omega, by simpa using h2, by simpa using h3⟩
theorem idxI_not {s : BA} {d : List BA} (h : s ∉ d) : idxI s d = -1 := idxI_none fun j hj e => h (by rw [← e]; exact List.getElem_mem hj)
theorem idxI_ge {s : BA} {d : List BA} : 0 ≤ idxI s d ↔ s ∈ d := by
  constructor
  · intro h
    exact Classical.byContradiction fun hn => by rw [idxI_not hn] at h; omega
  · intro h
    obtain ⟨k, h1, _⟩ := idxI_mem h
    omega
def addD (d : List BA) (s : BA) : List BA := if 0 ≤ idxI s d then d else insD s d
/-- The dictionary of a column. -/
def dict (l : List BA) : List BA := l.foldl addD []
theorem dict_snoc (l : List BA) (s : BA) : dict (l ++ [s]) = addD (dict l) s := by unfold dict; rw [List.foldl_append]; rfl
theorem addD_in {d : List BA} {s : BA} (h : s ∈ d) : addD d s = d := if_pos (idxI_ge.2 h)
theorem addD_out {d : List BA} {s : BA} (h : s ∉ d) : addD d s = insD s d := if_neg fun e => h (idxI_ge.1 e)
theorem addD_mem (d : List BA) (s x : BA) : x ∈ addD d s ↔ x = s ∨ x ∈ d := by
  by_cases h : s ∈ d
  · rw [addD_in h]
    exact ⟨.inr, fun h2 => h2.elim (fun e => by rw [e]; exact h) id⟩
  · rw [addD_out h]
    exact insD_mem s d x
theorem addD_asc {d : List BA} (h : asc d) (s : BA) : asc (addD d s) := by
  by_cases h2 : s ∈ d
  · rw [addD_in h2]; exact h
  · rw [addD_out h2]; exact insD_asc s d h h2
theorem insD_len (s : BA) (d : List BA) : (insD s d).length = d.length + 1 := by
  have := posN_le s d
  unfold insD
  rw [List.length_append, List.length_cons, List.length_take, List.length_drop]
  omega
theorem addD_len (d : List BA) (s : BA) : (addD d s).length ≤ d.length + 1 ∧ d.length ≤ (addD d s).length := by
  by_cases h : s ∈ d
  · rw [addD_in h]; omega
  · rw [addD_out h, insD_len]; omega
theorem fold_facts : ∀ (l d : List BA), asc d → asc (l.foldl addD d) ∧ (∀ x, x ∈ l.foldl addD d ↔ x ∈ l ∨ x ∈ d) ∧ (l.foldl addD d).length ≤ l.length + d.length
  | [], d, h => ⟨h, fun x => by simp, by simp⟩
  | s :: l, d, h => by
    obtain ⟨h1, h2, h3⟩ := fold_facts l (addD d s) (addD_asc h s)
    have h4 := addD_len d s
    refine ⟨h1, fun x => ?_, ?_⟩
    · rw [List.foldl_cons, h2, addD_mem, List.mem_cons]
      constructor
      · rintro (h | h | h)
        · exact .inl (.inr h)
        · exact .inl (.inl h)
        · exact .inr h
      · rintro ((h | h) | h)
        · exact .inr (.inl h)
        · exact .inl h
        · exact .inr (.inr h)
    · rw [List.foldl_cons, List.length_cons]
      omega
theorem dict_asc (l : List BA) : asc (dict l) := (fold_facts l [] List.Pairwise.nil).1
theorem dict_mem (l : List BA) (x : BA) : x ∈ dict l ↔ x ∈ l := by
  have := (fold_facts l [] List.Pairwise.nil).2.1 x
  unfold dict
  rw [this]
  simp
theorem dict_len (l : List BA) : (dict l).length ≤ l.length := by
  have := (fold_facts l [] List.Pairwise.nil).2.2
  unfold dict
  simpa using this
theorem dict_same {a b : List BA} (h : ∀ x, x ∈ a ↔ x ∈ b) : dict a = dict b := asc_unique (dict_asc a) (dict_asc b) fun x => by rw [dict_mem, dict_mem, h]
theorem dict_of {d l : List BA} (h : asc d) (h2 : ∀ x, x ∈ d ↔ x ∈ l) : dict l = d := asc_unique (dict_asc l) h fun x => by rw [dict_mem, h2]
/-- How many bytes two lists share at their head. -/
def comN : List UInt8 → List UInt8 → Nat
  | x :: a, y :: b => if x = y then comN a b + 1 else 0
  | _, _ => 0
theorem comN_le : ∀ a b : List UInt8, comN a b ≤ a.length ∧ comN a b ≤ b.length
  | [], b => ⟨Nat.zero_le _, Nat.zero_le _⟩
  | x :: a, [] => ⟨Nat.zero_le _, Nat.zero_le _⟩
  | x :: a, y :: b => by
    have := comN_le a b
    unfold comN
    by_cases e : x = y
    · rw [if_pos e, List.length_cons, List.length_cons]; omega
    · rw [if_neg e]; omega
theorem comN_take : ∀ a b : List UInt8, a.take (comN a b) = b.take (comN a b)
  | [], b => by unfold comN; simp
  | x :: a, [] => by unfold comN; simp
  | x :: a, y :: b => by
    unfold comN
    by_cases e : x = y
    · rw [if_pos e, List.take_succ_cons, List.take_succ_cons, comN_take a b, e]
    · rw [if_neg e, List.take_zero, List.take_zero]
theorem comN_is : ∀ (a b : List UInt8) (k : Nat), (∀ j, j < k → j < a.length ∧ j < b.length ∧ a[j]? = b[j]?) → (k < a.length → k < b.length → a[k]? ≠ b[k]?) → comN a b = k
  | [], b, k, h1, _ => by
    cases k with
    | zero => rfl
    | succ k =>
      have := (h1 0 (by omega)).1
      simp at this
  | x :: a, [], k, h1, _ => by
    cases k with
    | zero => rfl
    | succ k =>
      have := (h1 0 (by omega)).2.1
      simp at this
  | x :: a, y :: b, k, h1, h2 => by
    unfold comN
    cases k with
    | zero =>
      have := h2 (by simp) (by simp)
      rw [if_neg (fun e => this (by simp [e]))]
    | succ k =>
      have h0 := (h1 0 (by omega)).2.2
      rw [if_pos (by simpa using h0), comN_is a b k (fun j hj => by have := h1 (j + 1) (by omega); simpa using this) (fun h3 h4 => by have := h2 (by simpa using h3) (by simpa using h4); simpa using this)]
end Go.Proofs.Ytpinmmmbmhfmiaa.Dt
