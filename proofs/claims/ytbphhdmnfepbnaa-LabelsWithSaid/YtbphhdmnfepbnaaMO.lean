/- Layer 5: the order of names, of lists. -/
import Derived.Test.YtbphhdmnfepbnaaLF
set_option linter.unusedVariables false
set_option linter.unusedSimpArgs false
namespace Go.Proofs.Ytbphhdmnfepbnaa.Lab
open Go.RowKit
/-- Less, of lists of bytes. -/
theorem bl_nil (b : List UInt8) : Op.bytesLess b [] = false := by cases b <;> rfl
theorem bl_cons (x y : UInt8) (a b : List UInt8) : Op.bytesLess (x :: a) (y :: b) = true ↔ x.toNat < y.toNat ∨ (x.toNat = y.toNat ∧ Op.bytesLess a b = true) := by
  rw [Op.bytesLess, Bool.or_eq_true, decide_eq_true_iff, Bool.and_eq_true, beq_iff_eq, UInt8.lt_iff_toNat_lt, UInt8.toNat_inj]
theorem bl_irr : ∀ a : List UInt8, Op.bytesLess a a = false
  | [] => rfl
  | x :: a => by
    rw [← Bool.not_eq_true, bl_cons, bl_irr a]
    simp
theorem bl_trans : ∀ a b c : List UInt8, Op.bytesLess a b = true → Op.bytesLess b c = true → Op.bytesLess a c = true
  | a, [], c, h, _ => by rw [bl_nil] at h; cases h
  | a, y :: b, [], _, h => by rw [bl_nil] at h; cases h
  | [], y :: b, z :: c, _, _ => rfl
  | x :: a, y :: b, z :: c, h, k => by
    rw [bl_cons] at h k ⊢
    rcases h with h | ⟨h, h2⟩ <;> rcases k with k | ⟨k, k2⟩
    · exact .inl (by omega)
    · exact .inl (by omega)
    · exact .inl (by omega)
    · exact .inr ⟨by omega, bl_trans a b c h2 k2⟩
theorem bl_total : ∀ a b : List UInt8, Op.bytesLess a b = false → Op.bytesLess b a = false → a = b
  | [], [], _, _ => rfl
  | [], y :: b, h, _ => by cases h
  | x :: a, [], _, h => by cases h
  | x :: a, y :: b, h, k => by
    rw [← Bool.not_eq_true, bl_cons] at h k
    have e : x.toNat = y.toNat := by
      rcases Nat.lt_trichotomy x.toNat y.toNat with h1 | h1 | h1
      · exact absurd (.inl h1) h
      · exact h1
      · exact absurd (.inl h1) k
    have e2 : x = y := UInt8.toNat_inj.1 e
    subst e2
    have h2 : Op.bytesLess a b = false := by
      rw [← Bool.not_eq_true]; exact fun q => h (.inr ⟨rfl, q⟩)
    have k2 : Op.bytesLess b a = false := by
      rw [← Bool.not_eq_true]; exact fun q => k (.inr ⟨rfl, q⟩)
    rw [bl_total a b h2 k2]
theorem bl_asym {a b : List UInt8} (h : Op.bytesLess a b = true) : Op.bytesLess b a = false := by
  rw [← Bool.not_eq_true]
  intro k
  have := bl_trans a b a h k
  rw [bl_irr] at this
  cases this
/-- A three-way comparison. -/
structure Ord3 {α : Type} (f : α → α → Int) : Prop where
  zero : ∀ a b, f a b = 0 ↔ a = b
  neg : ∀ a b, f b a = - f a b
  lt : ∀ a b c, f a b < 0 → f b c < 0 → f a c < 0
theorem Ord3.self {α : Type} {f : α → α → Int} (h : Ord3 f) (a : α) : f a a = 0 := (h.zero a a).2 rfl
theorem Ord3.tr {α : Type} {f : α → α → Int} (h : Ord3 f) (a b c : α) (h1 : f a b ≤ 0) (h2 : f b c ≤ 0) : f a c ≤ 0 ∧ (f a c < 0 ↔ f a b < 0 ∨ f b c < 0) := by
  rcases Int.lt_or_eq_of_le h1 with k1 | k1
  · rcases Int.lt_or_eq_of_le h2 with k2 | k2
    · have := h.lt a b c k1 k2
      exact ⟨by omega, by omega⟩
    · obtain rfl := (h.zero b c).1 k2
      omega
  · obtain rfl := (h.zero a b).1 k1
    omega
theorem ord_S : Ord3 cmpS := by
  have key : ∀ a b : ByteArray, (Op.bytesLess a.toList b.toList = true ∧ cmpS a b = -1 ∧ cmpS b a = 1 ∧ a ≠ b) ∨ (a = b ∧ cmpS a b = 0) ∨ (Op.bytesLess b.toList a.toList = true ∧ cmpS a b = 1 ∧ cmpS b a = -1 ∧ a ≠ b) := fun a b => by
    have ne : ∀ {a b : ByteArray}, Op.bytesLess a.toList b.toList = true → a ≠ b := fun h e => by rw [e, bl_irr] at h; cases h
    cases h : Op.bytesLess a.toList b.toList with
    | true =>
      have n := ne h
      exact .inl ⟨rfl, cmpS_lt h, cmpS_gt (bl_asym h) (by rw [beq_eq_false_iff_ne]; intro e; rw [e, bl_irr] at h; cases h), n⟩
    | false =>
      cases k : Op.bytesLess b.toList a.toList with
      | true =>
        have n := ne k
        exact .inr (.inr ⟨rfl, cmpS_gt h (by rw [beq_eq_false_iff_ne]; intro e; rw [e, bl_irr] at k; cases k), cmpS_lt k, fun e => n e.symm⟩)
      | false =>
        have e := bl_total _ _ h k
        have e2 : a = b := eqS_iff.1 (by unfold eqS; rw [e]; simp)
        exact .inr (.inl ⟨e2, cmpS_eq h (by rw [e]; simp)⟩)
  refine ⟨fun a b => ?_, fun a b => ?_, fun a b c h1 h2 => ?_⟩
  · rcases key a b with ⟨_, h, _, n⟩ | ⟨e, h⟩ | ⟨_, h, _, n⟩
    · exact ⟨fun k => by omega, fun k => absurd k n⟩
    · exact ⟨fun _ => e, fun _ => h⟩
    · exact ⟨fun k => by omega, fun k => absurd k n⟩
  · rcases key a b with ⟨_, h, h', n⟩ | ⟨e, h⟩ | ⟨_, h, h', n⟩
    · omega
    · subst e; omega
    · omega
  · rcases key a b with ⟨l1, h, _, n⟩ | ⟨e, h⟩ | ⟨_, h, _, n⟩
    · rcases key b c with ⟨l2, k, _, _⟩ | ⟨e, k⟩ | ⟨_, k, _, _⟩
      · rw [cmpS_lt (bl_trans _ _ _ l1 l2)]; omega
      · omega
      · omega
    · omega
    · omega
theorem ord_X : Ord3 cmpX := by
  refine ⟨fun a b => ?_, fun a b => ?_, fun a b c h1 h2 => ?_⟩
  · unfold cmpX
    split
    · rename_i h
      have e := (ord_S.zero _ _).1 h
      rw [ord_S.zero]
      obtain ⟨an, av⟩ := a
      obtain ⟨bn, bv⟩ := b
      simp only at e
      subst e
      simp
    · rename_i h
      exact ⟨fun k => absurd k h, fun k => by subst k; exact absurd (ord_S.self _) h⟩
  · unfold cmpX
    rw [ord_S.neg a.n b.n, ord_S.neg a.v b.v]
    split <;> split <;> omega
  · unfold cmpX at h1 h2 ⊢
    split at h1
    · rename_i e1
      rw [(ord_S.zero _ _).1 e1]
      split at h2
      · rename_i e2
        rw [if_pos e2]
        exact ord_S.lt _ _ _ h1 h2
      · rename_i e2
        rw [if_neg e2]
        exact h2
    · split at h2
      · rename_i e2
        rw [← (ord_S.zero _ _).1 e2, if_neg (by assumption)]
        exact h1
      · have := ord_S.lt _ _ _ h1 h2
        rw [if_neg (by omega)]
        exact this
theorem cmpL_cons (x y : Lb) (a b : List Lb) : cmpL (x :: a) (y :: b) = if cmpX x y = 0 then cmpL a b else cmpX x y := rfl
theorem ordL_zero : ∀ a b : List Lb, cmpL a b = 0 ↔ a = b
  | [], [] => by simp [cmpL]
  | [], y :: b => by simp [cmpL]
  | x :: a, [] => by simp [cmpL]
  | x :: a, y :: b => by
    rw [cmpL_cons]
    split
    · rename_i h
      rw [ordL_zero a b, (ord_X.zero _ _).1 h]
      simp
    · rename_i h
      exact ⟨fun k => absurd k h, fun k => by injection k with k1 k2; subst k1; exact absurd (ord_X.self _) h⟩
theorem ordL_neg : ∀ a b : List Lb, cmpL b a = - cmpL a b
  | [], [] => rfl
  | [], y :: b => rfl
  | x :: a, [] => rfl
  | x :: a, y :: b => by
    rw [cmpL_cons, cmpL_cons, ordL_neg a b, ord_X.neg x y]
    split <;> split <;> omega
theorem ordL_lt : ∀ a b c : List Lb, cmpL a b < 0 → cmpL b c < 0 → cmpL a c < 0
  | [], [], c, h, _ => absurd h (by simp [cmpL])
  | x :: a, [], c, h, _ => absurd h (by simp [cmpL])
  | a, y :: b, [], _, h => absurd h (by simp [cmpL])
  | [], y :: b, z :: c, _, _ => by simp [cmpL]
  | x :: a, y :: b, z :: c, h1, h2 => by
    rw [cmpL_cons] at h1 h2 ⊢
    split at h1
    · rename_i e1
      rw [(ord_X.zero _ _).1 e1]
      split at h2
      · rename_i e2
        rw [if_pos e2]
        exact ordL_lt a b c h1 h2
      · rename_i e2
        rw [if_neg e2]
        exact h2
    · split at h2
      · rename_i e2
        rw [← (ord_X.zero _ _).1 e2, if_neg (by assumption)]
        exact h1
      · have := ord_X.lt _ _ _ h1 h2
        rw [if_neg (by omega)]
        exact this
theorem ord_L : Ord3 cmpL := ⟨ordL_zero, ordL_neg, ordL_lt⟩
theorem ord_eq (a b : List Lb) : decide (cmpL a b = 0) = eqL a b := by
  rw [Bool.eq_iff_iff, decide_eq_true_iff, eqL_iff, ordL_zero]
end Go.Proofs.Ytbphhdmnfepbnaa.Lab
