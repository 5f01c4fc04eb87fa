/- Layer 8: two lists side by side. -/
import Derived.Test.YtejnmjaclhmelaaPG
set_option linter.unusedVariables false
set_option linter.unusedSimpArgs false
namespace Go.Proofs.Ytejnmjaclhmelaa.Po
/-- The first number, or one that is greater than all. -/
def hdI (l : List Int) : Int := l.head?.getD 1152921504606846977
theorem hdI_cons (x : Int) (l : List Int) : hdI (x :: l) = x := rfl
theorem hdI_nil : hdI [] = 1152921504606846977 := rfl
/-- Each number of two lists once, with the lists that have it; n: no fewer than the numbers. -/
def sideF : Nat → List Int → List Int → List (Int × Bool × Bool)
  | 0, _, _ => []
  | n + 1, a, b => if a = [] ∧ b = [] then [] else
    (min (hdI a) (hdI b), decide (hdI a ≤ hdI b), decide (hdI b ≤ hdI a)) :: sideF n (if hdI a ≤ hdI b then a.tail else a) (if hdI b ≤ hdI a then b.tail else b)
theorem sideF_nil (n : Nat) : sideF n [] [] = [] := by cases n <;> simp [sideF]
theorem Val.tail {x : Int} {l : List Int} (h : Val (x :: l)) : Val l := ⟨fun y hy => h.1 y (List.mem_cons_of_mem _ hy), (List.pairwise_cons.1 h.2).2⟩
theorem Val.hd_lt {x : Int} {l : List Int} (h : Val (x :: l)) : ∀ y ∈ l, x < y := (List.pairwise_cons.1 h.2).1
theorem Val.hd_le {x : Int} {l : List Int} (h : Val (x :: l)) : x ≤ 1152921504606846976 := (h.1 x (List.mem_cons_self ..)).2
theorem Val.lt_hd {l : List Int} (h : Val l) {z : Int} (hz : z < hdI l) : z ∉ l := by
  cases l with
  | nil => simp
  | cons x l =>
    rw [hdI_cons] at hz
    intro hm
    rcases List.mem_cons.1 hm with rfl | hm
    · omega
    · have := h.hd_lt z hm; omega
/-- What the walk yields: each number of either, with the truth about both; ascending. -/
theorem side_spec : ∀ (n : Nat) (a b : List Int), Val a → Val b → a.length + b.length ≤ n →
    (∀ z p q, (z, p, q) ∈ sideF n a b ↔ (z ∈ a ∨ z ∈ b) ∧ p = decide (z ∈ a) ∧ q = decide (z ∈ b)) ∧ (sideF n a b).Pairwise (fun s t => s.1 < t.1)
  | 0, a, b, _, _, hl => by
    have e1 : a = [] := List.length_eq_zero_iff.1 (by omega)
    have e2 : b = [] := List.length_eq_zero_iff.1 (by omega)
    subst e1 e2
    simp [sideF]
  | n + 1, a, b, ha, hb, hl => by
    by_cases h0 : a = [] ∧ b = []
    · obtain ⟨rfl, rfl⟩ := h0
      simp [sideF]
    rw [sideF, if_neg h0]
    -- the tails
    have ta : ∀ x l, a = x :: l → Val l := fun x l e => by subst e; exact ha.tail
    have tb : ∀ x l, b = x :: l → Val l := fun x l e => by subst e; exact hb.tail
    have key : ∃ z0 a' b', min (hdI a) (hdI b) = z0 ∧ (if hdI a ≤ hdI b then a.tail else a) = a' ∧ (if hdI b ≤ hdI a then b.tail else b) = b' ∧ Val a' ∧ Val b' ∧ a'.length + b'.length ≤ n ∧ (z0 ∈ a ∨ z0 ∈ b) ∧
        (hdI a ≤ hdI b ↔ z0 ∈ a) ∧ (hdI b ≤ hdI a ↔ z0 ∈ b) ∧ (∀ z, z ∈ a ↔ (z = z0 ∧ z0 ∈ a) ∨ z ∈ a') ∧ (∀ z, z ∈ b ↔ (z = z0 ∧ z0 ∈ b) ∨ z ∈ b') ∧ (∀ z, z ∈ a' ∨ z ∈ b' → z0 < z) := by
      cases a with
      | nil =>
        cases b with
        | nil => exact absurd ⟨rfl, rfl⟩ h0
        | cons y b =>
          have hy := hb.hd_le
          rw [hdI_nil, hdI_cons]
          refine ⟨y, [], b, by omega, by rw [if_neg (by omega)], by rw [if_pos (by omega)]; rfl, Val.nil, hb.tail, by simp at hl ⊢; omega, .inr (List.mem_cons_self ..), ⟨fun h => by omega, fun h => by simp at h⟩, ⟨fun _ => List.mem_cons_self .., fun _ => by omega⟩, fun z => by simp, fun z => by simp, fun z hz => ?_⟩
          rcases hz with hz | hz
          · simp at hz
          · exact hb.hd_lt z hz
      | cons x a =>
        have hx := ha.hd_le
        cases b with
        | nil =>
          rw [hdI_nil, hdI_cons]
          refine ⟨x, a, [], by omega, by rw [if_pos (by omega)]; rfl, by rw [if_neg (by omega)], ha.tail, Val.nil, by simp at hl ⊢; omega, .inl (List.mem_cons_self ..), ⟨fun _ => List.mem_cons_self .., fun _ => by omega⟩, ⟨fun h => by omega, fun h => by simp at h⟩, fun z => by simp, fun z => by simp, fun z hz => ?_⟩
          rcases hz with hz | hz
          · exact ha.hd_lt z hz
          · simp at hz
        | cons y b =>
          rw [hdI_cons, hdI_cons]
          simp only [List.length_cons] at hl
          rcases Int.lt_trichotomy x y with h | h | h
          · have hn : x ∉ y :: b := hb.lt_hd (by rw [hdI_cons]; exact h)
            refine ⟨x, a, y :: b, by omega, by rw [if_pos (by omega)]; rfl, by rw [if_neg (by omega)], ha.tail, hb, by simp; omega, .inl (List.mem_cons_self ..), ⟨fun _ => List.mem_cons_self .., fun _ => by omega⟩, ⟨fun h => by omega, fun h => absurd h hn⟩, fun z => by simp, fun z => ?_, fun z hz => ?_⟩
            · constructor
              · exact .inr
              · rintro (⟨_, h3⟩ | h3)
                · exact absurd h3 hn
                · exact h3
            · rcases hz with hz | hz
              · exact ha.hd_lt z hz
              · rcases List.mem_cons.1 hz with rfl | hz
                · exact h
                · have := hb.hd_lt z hz; omega
          · subst h
            refine ⟨x, a, b, by omega, by rw [if_pos (by omega)]; rfl, by rw [if_pos (by omega)]; rfl, ha.tail, hb.tail, by omega, .inl (List.mem_cons_self ..), ⟨fun _ => List.mem_cons_self .., fun _ => by omega⟩, ⟨fun _ => List.mem_cons_self .., fun _ => by omega⟩, fun z => by simp, fun z => by simp, fun z hz => ?_⟩
            rcases hz with hz | hz
            · exact ha.hd_lt z hz
            · exact hb.hd_lt z hz
          · have hn : y ∉ x :: a := ha.lt_hd (by rw [hdI_cons]; exact h)
            refine ⟨y, x :: a, b, by omega, by rw [if_neg (by omega)], by rw [if_pos (by omega)]; rfl, ha, hb.tail, by simp; omega, .inr (List.mem_cons_self ..), ⟨fun h => by omega, fun h => absurd h hn⟩, ⟨fun _ => List.mem_cons_self .., fun _ => by omega⟩, fun z => ?_, fun z => by simp, fun z hz => ?_⟩
            · constructor
              · exact .inr
              · rintro (⟨_, h3⟩ | h3)
                · exact absurd h3 hn
                · exact h3
            · rcases hz with hz | hz
              · rcases List.mem_cons.1 hz with rfl | hz
                · exact h
                · have := ha.hd_lt z hz; omega
              · exact hb.hd_lt z hz
    obtain ⟨z0, a', b', e1, e2, e3, va, vb, hl', hin, hpa, hpb, hma, hmb, hlt⟩ := key
    obtain ⟨ih1, ih2⟩ := side_spec n a' b' va vb hl'
    rw [e1, e2, e3]
    have n1 : z0 ∉ a' := fun h => by have := hlt z0 (.inl h); omega
    have n2 : z0 ∉ b' := fun h => by have := hlt z0 (.inr h); omega
    constructor
    · intro z p q
      rw [List.mem_cons, ih1]
      simp only [Prod.mk.injEq]
      constructor
      · rintro (⟨rfl, rfl, rfl⟩ | ⟨h1, rfl, rfl⟩)
        · exact ⟨hin, decide_eq_decide.2 hpa, decide_eq_decide.2 hpb⟩
        · have hne : z ≠ z0 := fun e => by subst e; rcases h1 with h1 | h1; exact n1 h1; exact n2 h1
          have ea : z ∈ a ↔ z ∈ a' := by rw [hma]; simp [hne]
          have eb : z ∈ b ↔ z ∈ b' := by rw [hmb]; simp [hne]
          exact ⟨by rw [ea, eb]; exact h1, decide_eq_decide.2 ea.symm, decide_eq_decide.2 eb.symm⟩
      · rintro ⟨h1, rfl, rfl⟩
        by_cases hz : z = z0
        · subst hz
          exact .inl ⟨rfl, decide_eq_decide.2 hpa.symm, decide_eq_decide.2 hpb.symm⟩
        · have ea : z ∈ a ↔ z ∈ a' := by rw [hma]; simp [hz]
          have eb : z ∈ b ↔ z ∈ b' := by rw [hmb]; simp [hz]
          exact .inr ⟨by rw [← ea, ← eb]; exact h1, decide_eq_decide.2 ea, decide_eq_decide.2 eb⟩
    · refine List.pairwise_cons.2 ⟨fun t ht => ?_, ih2⟩
      obtain ⟨z, p, q⟩ := t
      exact hlt z ((ih1 z p q).1 ht).1
/-- All of two lists, side by side; those that are chosen by who has them. -/
def sideL (a b : List Int) : List (Int × Bool × Bool) := sideF (a.length + b.length) a b
def cho (f : Bool → Bool → Bool) (t : List (Int × Bool × Bool)) : List Int := (t.filter fun x => f x.2.1 x.2.2).map (·.1)
def selL (f : Bool → Bool → Bool) (a b : List Int) : List Int := cho f (sideL a b)
theorem cho_snoc_yes {f : Bool → Bool → Bool} {t : List (Int × Bool × Bool)} {x : Int × Bool × Bool} (h : f x.2.1 x.2.2 = true) : cho f (t ++ [x]) = cho f t ++ [x.1] := by
  unfold cho; rw [List.filter_append, List.map_append]; simp [h]
theorem cho_snoc_no {f : Bool → Bool → Bool} {t : List (Int × Bool × Bool)} {x : Int × Bool × Bool} (h : f x.2.1 x.2.2 = false) : cho f (t ++ [x]) = cho f t := by
  unfold cho; rw [List.filter_append, List.map_append]; simp [h]
theorem cho_len (f : Bool → Bool → Bool) (t : List (Int × Bool × Bool)) : (cho f t).length ≤ t.length := by
  unfold cho; rw [List.length_map]; exact List.length_filter_le ..
theorem sideF_len : ∀ (n : Nat) (a b : List Int), (sideF n a b).length ≤ n
  | 0, _, _ => Nat.le_refl _
  | n + 1, a, b => by
    rw [sideF]
    split
    · exact Nat.zero_le _
    · rw [List.length_cons]; have := sideF_len n (if hdI a ≤ hdI b then a.tail else a) (if hdI b ≤ hdI a then b.tail else b); omega
theorem selL_len (f : Bool → Bool → Bool) (a b : List Int) : (selL f a b).length ≤ a.length + b.length := Nat.le_trans (cho_len _ _) (sideF_len _ _ _)
theorem mem_selL {f : Bool → Bool → Bool} {a b : List Int} (ha : Val a) (hb : Val b) {z : Int} : z ∈ selL f a b ↔ (z ∈ a ∨ z ∈ b) ∧ f (decide (z ∈ a)) (decide (z ∈ b)) = true := by
  have h := (side_spec _ a b ha hb (Nat.le_refl _)).1
  unfold selL cho sideL
  rw [List.mem_map]
  constructor
  · rintro ⟨⟨z', p, q⟩, h1, rfl⟩
    obtain ⟨h2, h3⟩ := List.mem_filter.1 h1
    obtain ⟨k1, rfl, rfl⟩ := (h _ _ _).1 h2
    exact ⟨k1, h3⟩
  · rintro ⟨h1, h2⟩
    exact ⟨(z, decide (z ∈ a), decide (z ∈ b)), List.mem_filter.2 ⟨(h _ _ _).2 ⟨h1, rfl, rfl⟩, h2⟩, rfl⟩
theorem selL_asc {f : Bool → Bool → Bool} {a b : List Int} (ha : Val a) (hb : Val b) : asc (selL f a b) := by
  have h := (side_spec _ a b ha hb (Nat.le_refl _)).2
  unfold selL cho asc sideL
  exact List.pairwise_map.2 (h.sublist List.filter_sublist)
theorem selL_val {f : Bool → Bool → Bool} {a b : List Int} (ha : Val a) (hb : Val b) : Val (selL f a b) := ⟨fun z hz => by
  rcases ((mem_selL ha hb).1 hz).1 with h | h
  · exact ha.1 z h
  · exact hb.1 z h, selL_asc ha hb⟩
def fAnd (p q : Bool) : Bool := p && q
def fWi (p q : Bool) : Bool := p && !q
def fAll (_ _ : Bool) : Bool := true
theorem sel_and {a b : List Int} (ha : Val a) (hb : Val b) : selL fAnd a b = fltL true a b := by
  rw [← and_flt]
  refine asc_eq (selL_asc ha hb) (ha.and_ b).2 fun z => ?_
  rw [mem_selL ha hb, mem_and]
  by_cases h1 : z ∈ a <;> by_cases h2 : z ∈ b <;> simp [h1, h2, fAnd]
theorem sel_wi {a b : List Int} (ha : Val a) (hb : Val b) : selL fWi a b = fltL false a b := by
  rw [← wi_flt]
  refine asc_eq (selL_asc ha hb) (ha.wi b).2 fun z => ?_
  rw [mem_selL ha hb, mem_wi]
  by_cases h1 : z ∈ a <;> by_cases h2 : z ∈ b <;> simp [h1, h2, fWi]
theorem mem_all {a b : List Int} (ha : Val a) (hb : Val b) {z : Int} : z ∈ selL fAll a b ↔ z ∈ a ∨ z ∈ b := by
  rw [mem_selL ha hb]; simp [fAll]
/-- Halves merged, and both together. -/
theorem mrg_halves {ls : List (List Int)} (h : ∀ l ∈ ls, Val l) (k : Nat) : selL fAll (mrgL (ls.take k)) (mrgL (ls.drop k)) = mrgL ls := by
  have h1 : Val (mrgL (ls.take k)) := mrgL_val fun l hl => h l (List.mem_of_mem_take hl)
  have h2 : Val (mrgL (ls.drop k)) := mrgL_val fun l hl => h l (List.mem_of_mem_drop hl)
  refine asc_eq (selL_asc h1 h2) (mrgL_val h).2 fun z => ?_
  rw [mem_all h1 h2, mem_mrg, mem_mrg, mem_mrg]
  constructor
  · rintro (⟨l, hl, hz⟩ | ⟨l, hl, hz⟩)
    · exact ⟨l, List.mem_of_mem_take hl, hz⟩
    · exact ⟨l, List.mem_of_mem_drop hl, hz⟩
  · rintro ⟨l, hl, hz⟩
    rw [← List.take_append_drop k ls, List.mem_append] at hl
    rcases hl with hl | hl
    · exact .inl ⟨l, hl, hz⟩
    · exact .inr ⟨l, hl, hz⟩
theorem mrg_one {l : List Int} (h : Val l) : mrgL [l] = l := asc_eq (mrgL_val fun m hm => by rw [List.mem_singleton] at hm; subst hm; exact h).2 h.2 fun z => by rw [mem_mrg]; simp
end Go.Proofs.Ytejnmjaclhmelaa.Po
