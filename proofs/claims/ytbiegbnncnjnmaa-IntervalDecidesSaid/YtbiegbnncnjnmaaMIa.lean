/- What intervals of rationals come to: a product (quotient) of elements lies where the four of the ends lie. What the operations of two fractions hand back: a fraction and an error; the number that a valid fraction is. -/
import Derived.WalkKit
import Derived.Test.YtbiegbnncnjnmaaRatS
set_option linter.unusedVariables false
set_option linter.unusedSimpArgs false
namespace Go.Proofs.Ytbiegbnncnjnmaa.IvMath

theorem mul_mono {A B C : Rat} (h : A ≤ B) (hC : 0 ≤ C) : A * C ≤ B * C := Rat.mul_le_mul_of_nonneg_right h hC
theorem neg_of {C : Rat} (h : C ≤ 0) : 0 ≤ -C := by
  have h1 := Rat.neg_le_neg h
  rw [Rat.neg_zero] at h1
  exact h1
theorem mul_anti {A B C : Rat} (h : A ≤ B) (hC : C ≤ 0) : B * C ≤ A * C := by
  have h1 := mul_mono h (neg_of hC)
  rw [Rat.mul_neg, Rat.mul_neg] at h1
  have h2 := Rat.neg_le_neg h1
  rw [Rat.neg_neg, Rat.neg_neg] at h2
  exact h2
/-- A range that holds both ends' products holds the products of all between them. -/
theorem in_mul {L A H B P Q : Rat} (h1 : L ≤ A) (h2 : A ≤ H) (l1 : P ≤ L * B) (l2 : L * B ≤ Q) (u1 : P ≤ H * B) (u2 : H * B ≤ Q) : P ≤ A * B ∧ A * B ≤ Q := by
  rcases Rat.le_total (a := 0) (b := B) with hB | hB
  · exact ⟨Rat.le_trans l1 (mul_mono h1 hB), Rat.le_trans (mul_mono h2 hB) u2⟩
  · exact ⟨Rat.le_trans u1 (mul_anti h2 hB), Rat.le_trans (mul_anti h1 hB) l2⟩
theorem in_mul4 {L1 A H1 L2 B H2 P Q : Rat} (a1 : L1 ≤ A) (a2 : A ≤ H1) (b1 : L2 ≤ B) (b2 : B ≤ H2)
    (c1 : P ≤ L1 * L2 ∧ L1 * L2 ≤ Q) (c2 : P ≤ L1 * H2 ∧ L1 * H2 ≤ Q) (c3 : P ≤ H1 * L2 ∧ H1 * L2 ≤ Q) (c4 : P ≤ H1 * H2 ∧ H1 * H2 ≤ Q) : P ≤ A * B ∧ A * B ≤ Q := by
  have e1 : P ≤ L1 * B ∧ L1 * B ≤ Q := by
    rw [Rat.mul_comm L1 B]
    rw [Rat.mul_comm L1 L2] at c1
    rw [Rat.mul_comm L1 H2] at c2
    exact in_mul b1 b2 c1.1 c1.2 c2.1 c2.2
  have e2 : P ≤ H1 * B ∧ H1 * B ≤ Q := by
    rw [Rat.mul_comm H1 B]
    rw [Rat.mul_comm H1 L2] at c3
    rw [Rat.mul_comm H1 H2] at c4
    exact in_mul b1 b2 c3.1 c3.2 c4.1 c4.2
  exact in_mul a1 a2 e1.1 e1.2 e2.1 e2.2
theorem lt_le {A B C : Rat} (h : A < B) (h' : B ≤ C) : A < C := Rat.not_le.1 fun x => Rat.not_le.2 h (Rat.le_trans h' x)
theorem le_lt {A B C : Rat} (h : A ≤ B) (h' : B < C) : A < C := Rat.not_le.1 fun x => Rat.not_le.2 h' (Rat.le_trans x h)
theorem inv_pos {B : Rat} (h : 0 < B) : 0 < B⁻¹ := Rat.inv_pos.2 h
theorem inv_anti_pos {A B : Rat} (hA : 0 < A) (h : A ≤ B) : B⁻¹ ≤ A⁻¹ := by
  have hB : 0 < B := lt_le hA h
  have a0 : A ≠ 0 := fun e => Rat.lt_irrefl (e ▸ hA)
  have b0 : B ≠ 0 := fun e => Rat.lt_irrefl (e ▸ hB)
  have h1 := mul_mono h (Rat.le_of_lt (inv_pos hA))
  rw [Rat.mul_inv_cancel A a0] at h1
  have h2 := mul_mono h1 (Rat.le_of_lt (inv_pos hB))
  rw [Rat.one_mul, Rat.mul_comm B A⁻¹, Rat.mul_assoc, Rat.mul_inv_cancel B b0, Rat.mul_one] at h2
  exact h2
theorem inv_neg' (A : Rat) : (-A)⁻¹ = -A⁻¹ := by
  by_cases h : A = 0
  · rw [h, Rat.neg_zero, Rat.inv_zero, Rat.neg_zero]
  · have h' : -A ≠ 0 := fun e => h (by rw [← Rat.neg_neg A, e]; decide)
    have e1 := Rat.mul_inv_cancel (-A) h'
    have e2 := Rat.mul_inv_cancel A h
    have e3 : -A * -A⁻¹ = 1 := by rw [Rat.mul_neg, Rat.neg_mul, Rat.neg_neg, e2]
    have e4 : (-A)⁻¹ * (-A * -A⁻¹) = (-A)⁻¹ * 1 := by rw [e3]
    rw [← Rat.mul_assoc, Rat.mul_comm (-A)⁻¹ (-A), e1, Rat.one_mul, Rat.mul_one] at e4
    exact e4.symm
theorem lt_neg {A : Rat} (h : A < 0) : 0 < -A := by
  have h1 := Rat.neg_lt_neg h
  rw [Rat.neg_zero] at h1
  exact h1
theorem inv_anti_neg {A B : Rat} (hB : B < 0) (h : A ≤ B) : B⁻¹ ≤ A⁻¹ := by
  have h1 := inv_anti_pos (lt_neg hB) (Rat.neg_le_neg h)
  rw [inv_neg', inv_neg'] at h1
  have h2 := Rat.neg_le_neg h1
  rw [Rat.neg_neg, Rat.neg_neg] at h2
  exact h2
theorem inv_between {L B H : Rat} (h : 0 < L ∨ H < 0) (b1 : L ≤ B) (b2 : B ≤ H) : H⁻¹ ≤ B⁻¹ ∧ B⁻¹ ≤ L⁻¹ := by
  rcases h with h | h
  · exact ⟨inv_anti_pos (lt_le h b1) b2, inv_anti_pos h b1⟩
  · exact ⟨inv_anti_neg h b2, inv_anti_neg (le_lt b2 h) b1⟩
theorem in_div4 {L1 A H1 L2 B H2 P Q : Rat} (h : 0 < L2 ∨ H2 < 0) (a1 : L1 ≤ A) (a2 : A ≤ H1) (b1 : L2 ≤ B) (b2 : B ≤ H2)
    (c1 : P ≤ L1 / L2 ∧ L1 / L2 ≤ Q) (c2 : P ≤ L1 / H2 ∧ L1 / H2 ≤ Q) (c3 : P ≤ H1 / L2 ∧ H1 / L2 ≤ Q) (c4 : P ≤ H1 / H2 ∧ H1 / H2 ≤ Q) : P ≤ A / B ∧ A / B ≤ Q := by
  rw [Rat.div_def] at c1 c2 c3 c4 ⊢
  obtain ⟨i1, i2⟩ := inv_between h b1 b2
  exact in_mul4 a1 a2 i1 i2 c2 c1 c4 c3
theorem add_mono {A B C D : Rat} (h1 : A ≤ B) (h2 : C ≤ D) : A + C ≤ B + D := Rat.le_trans (Rat.add_le_add_right.2 h1) (Rat.add_le_add_left.2 h2)
theorem sub_mono {A B C D : Rat} (h1 : A ≤ B) (h2 : C ≤ D) : A - D ≤ B - C := by
  rw [Rat.sub_eq_add_neg, Rat.sub_eq_add_neg]
  exact add_mono h1 (Rat.neg_le_neg h2)
end Go.Proofs.Ytbiegbnncnjnmaa.IvMath
namespace Go.Proofs.Ytbiegbnncnjnmaa.Iv
open Go.RowKit
open Go.Proofs.Ytbiegbnncnjnmaa.Rat (inI)

theorem chkB {n d : Int} (h : Rat.chk n d) : n.natAbs ≤ 1152921504606846976 ∧ d.natAbs ≤ 1152921504606846976 ∧ 1 ≤ d ∧ inI n ∧ inI d := by
  obtain ⟨⟨h1, h2⟩, ⟨h3, h4⟩, _⟩ := h
  exact ⟨by omega, by omega, h1, ⟨by omega, by omega⟩, ⟨by omega, by omega⟩⟩
/-- What an operation's result is: a fraction and an error. -/
instance fitsDec (q : _root_.Rat) : Decidable (Rat.FitsQ q) := by unfold Rat.FitsQ; infer_instance
def opT (q : _root_.Rat → _root_.Rat → _root_.Rat) (n1 d1 n2 d2 : Int) : Int × Int × Int :=
  if Rat.chk n1 d1 ∧ Rat.chk n2 d2 then (if Rat.FitsQ (q (Rat.toQ n1 d1.toNat) (Rat.toQ n2 d2.toNat)) then ((q (Rat.toQ n1 d1.toNat) (Rat.toQ n2 d2.toNat)).num, ((q (Rat.toQ n1 d1.toNat) (Rat.toQ n2 d2.toNat)).den : Int), 0) else (0, 0, 14)) else (0, 0, 1)
theorem opT_out (q : _root_.Rat → _root_.Rat → _root_.Rat) (n1 d1 n2 d2 : Int) :
    Rat.opOut q n1 d1 n2 d2 = .tuple #[.agg #[.int .i64 (opT q n1 d1 n2 d2).1, .int .i64 (opT q n1 d1 n2 d2).2.1], .int .i64 (opT q n1 d1 n2 d2).2.2] := by
  unfold opT
  by_cases h : Rat.chk n1 d1 ∧ Rat.chk n2 d2
  · rw [if_pos h, Rat.opOut_yes h]
    by_cases hf : Rat.FitsQ (q (Rat.toQ n1 d1.toNat) (Rat.toQ n2 d2.toNat))
    · rw [if_pos hf, Rat.outQ_yes hf]
      rfl
    · rw [if_neg hf, Rat.outQ_no hf]
      rfl
  · rw [if_neg h, Rat.opOut_no h]
    rfl
theorem opT_in (q : _root_.Rat → _root_.Rat → _root_.Rat) (n1 d1 n2 d2 : Int) : inI (opT q n1 d1 n2 d2).1 ∧ inI (opT q n1 d1 n2 d2).2.1 := by
  have z : inI 0 ∧ inI 0 := ⟨⟨by decide, by decide⟩, ⟨by decide, by decide⟩⟩
  unfold opT
  by_cases h : Rat.chk n1 d1 ∧ Rat.chk n2 d2
  · rw [if_pos h]
    by_cases hf : Rat.FitsQ (q (Rat.toQ n1 d1.toNat) (Rat.toQ n2 d2.toNat))
    · rw [if_pos hf]
      have b := chkB (Rat.valid_chk (Rat.valid_of_fits hf))
      exact ⟨b.2.2.2.1, b.2.2.2.2⟩
    · rw [if_neg hf]
      exact z
  · rw [if_neg h]
    exact z
/-- A valid fraction, and the number that it is. -/
def Val (n d : Int) (Q : _root_.Rat) : Prop := ∃ D : Nat, d = D ∧ Rat.chk n D ∧ Rat.toQ n D = Q
theorem Val.uniq {n d n' d' : Int} {Q : _root_.Rat} (h : Val n d Q) (h' : Val n' d' Q) : n = n' ∧ d = d' := by
  obtain ⟨D, rfl, c, e⟩ := h
  obtain ⟨D', rfl, c', e'⟩ := h'
  obtain ⟨x, y⟩ := Rat.toQ_eq c c' (e.trans e'.symm)
  exact ⟨x, by rw [y]⟩
theorem opT_eq {q : _root_.Rat → _root_.Rat → _root_.Rat} {n1 d1 n2 d2 : Int} {X Y : _root_.Rat} (hx : Val n1 d1 X) (hy : Val n2 d2 Y) : opT q n1 d1 n2 d2 = if Rat.FitsQ (q X Y) then ((q X Y).num, ((q X Y).den : Int), 0) else (0, 0, 14) := by
  obtain ⟨D, rfl, c, rfl⟩ := hx
  obtain ⟨D', rfl, c', rfl⟩ := hy
  unfold opT
  rw [if_pos ⟨c, c'⟩, Int.toNat_natCast, Int.toNat_natCast]
theorem opT_ok {q : _root_.Rat → _root_.Rat → _root_.Rat} {n1 d1 n2 d2 : Int} {X Y : _root_.Rat} (hx : Val n1 d1 X) (hy : Val n2 d2 Y) (h0 : (opT q n1 d1 n2 d2).2.2 = 0) : Val (opT q n1 d1 n2 d2).1 (opT q n1 d1 n2 d2).2.1 (q X Y) := by
  rw [opT_eq hx hy] at h0 ⊢
  by_cases hf : Rat.FitsQ (q X Y)
  · rw [if_pos hf]
    exact ⟨_, rfl, Rat.valid_chk (Rat.valid_of_fits hf), Rat.toQ_self _⟩
  · rw [if_neg hf] at h0
    cases h0
theorem opT_val {q : _root_.Rat → _root_.Rat → _root_.Rat} {n1 d1 n2 d2 r1 r2 : Int} {X Y R : _root_.Rat} (hx : Val n1 d1 X) (hy : Val n2 d2 Y) (hR : q X Y = R) (hr : Val r1 r2 R) : opT q n1 d1 n2 d2 = (r1, r2, 0) := by
  rw [opT_eq hx hy, hR]
  obtain ⟨D, rfl, c, rfl⟩ := hr
  have v := Rat.chk_valid c
  rw [if_pos v.fits, v.num, v.den]
theorem opT_comm {q : _root_.Rat → _root_.Rat → _root_.Rat} (hq : ∀ X Y, q X Y = q Y X) (n1 d1 n2 d2 : Int) : opT q n2 d2 n1 d1 = opT q n1 d1 n2 d2 := by
  unfold opT
  rw [hq (Rat.toQ n2 d2.toNat)]
  by_cases h : Rat.chk n1 d1 ∧ Rat.chk n2 d2
  · rw [if_pos h, if_pos h.symm]
  · rw [if_neg h, if_neg (fun x => h x.symm)]
/-- A comparison of two numbers. -/
def cmpQ (X Y : _root_.Rat) : Int := if X < Y then -1 else if Y < X then 1 else 0
theorem cmp_val {n1 d1 n2 d2 : Int} {X Y : _root_.Rat} (hx : Val n1 d1 X) (hy : Val n2 d2 Y) : Rat.cmpOut n1 d1 n2 d2 = cmpQ X Y := by
  obtain ⟨D, rfl, c, rfl⟩ := hx
  obtain ⟨D', rfl, c', rfl⟩ := hy
  unfold Rat.cmpOut
  rw [if_pos ⟨c, c'⟩, Int.toNat_natCast, Int.toNat_natCast]
  rfl
theorem cmpQ_le {X Y : _root_.Rat} : cmpQ X Y ≤ 0 ↔ X ≤ Y := by
  unfold cmpQ
  by_cases h1 : X < Y
  · rw [if_pos h1]
    exact ⟨fun _ => Rat.le_of_lt h1, fun _ => by decide⟩
  · rw [if_neg h1]
    by_cases h2 : Y < X
    · rw [if_pos h2]
      exact ⟨fun h => absurd h (by decide), fun h => absurd h2 (Rat.not_lt.2 h)⟩
    · rw [if_neg h2]
      exact ⟨fun _ => Rat.not_lt.1 h2, fun _ => by decide⟩
theorem cmpQ_neg (X Y : _root_.Rat) : cmpQ Y X = -cmpQ X Y := by
  unfold cmpQ
  by_cases h1 : X < Y
  · have h2 : ¬ Y < X := Rat.not_lt.2 (Rat.le_of_lt h1)
    rw [if_pos h1, if_neg h2, if_pos h1]; rfl
  · by_cases h2 : Y < X
    · rw [if_pos h2, if_neg h1, if_pos h2]
    · rw [if_neg h2, if_neg h1, if_neg h1, if_neg h2]; rfl
theorem cmpQ_gt {X Y : _root_.Rat} : 0 < cmpQ X Y ↔ Y < X := by
  have h := cmpQ_le (X := X) (Y := Y)
  constructor
  · intro h1
    exact Rat.not_le.1 fun h2 => by have := h.2 h2; omega
  · intro h1
    have h3 : ¬ X ≤ Y := Rat.not_le.2 h1
    have : ¬ cmpQ X Y ≤ 0 := fun h2 => h3 (h.1 h2)
    omega
theorem cmpQ_lt {X Y : _root_.Rat} : cmpQ X Y < 0 ↔ X < Y := by
  have h := cmpQ_gt (X := Y) (Y := X)
  rw [cmpQ_neg X Y] at h
  constructor
  · intro h1
    exact h.1 (by omega)
  · intro h1
    have := h.2 h1
    omega
theorem cmpQ_ge {X Y : _root_.Rat} : 0 ≤ cmpQ X Y ↔ Y ≤ X := by
  have h := cmpQ_le (X := Y) (Y := X)
  rw [cmpQ_neg X Y] at h
  constructor
  · intro h1
    exact h.1 (by omega)
  · intro h1
    have := h.2 h1
    omega
theorem cmpQ_zero {X Y : _root_.Rat} : cmpQ X Y = 0 ↔ X = Y := by
  constructor
  · intro h
    exact Rat.le_antisymm (cmpQ_le.1 (by omega)) (cmpQ_ge.1 (by omega))
  · rintro rfl
    unfold cmpQ
    rw [if_neg Rat.lt_irrefl, if_neg Rat.lt_irrefl]
/-- The errors of a fraction, of an interval. -/
def cv (n d : Int) : Int := if Rat.chk n d then 0 else 1
def chkI (a b c d : Int) : Int := if cv a b = 0 ∧ cv c d = 0 then (if 0 < Rat.cmpOut a b c d then 9 else 0) else 1
theorem cv_zero {n d : Int} : cv n d = 0 ↔ Rat.chk n d := by
  unfold cv
  split
  · exact ⟨fun _ => by assumption, fun _ => rfl⟩
  · exact ⟨fun h => absurd h (by decide), fun h => absurd h (by assumption)⟩
/-- A valid interval, and its ends' numbers. -/
def IVal (a b c d : Int) (L H : _root_.Rat) : Prop := Val a b L ∧ Val c d H ∧ L ≤ H
theorem val_of {n d : Int} (h : Rat.chk n d) : ∃ X, Val n d X := by
  obtain ⟨D, rfl, h⟩ := Rat.chk_nat h
  exact ⟨_, D, rfl, h, rfl⟩
theorem Val.chk {n d : Int} {X : _root_.Rat} (h : Val n d X) : Rat.chk n d := by
  obtain ⟨D, rfl, h, _⟩ := h
  exact h
theorem chkI_zero {a b c d : Int} : chkI a b c d = 0 ↔ ∃ L H, IVal a b c d L H := by
  unfold chkI
  constructor
  · intro h
    by_cases h1 : cv a b = 0 ∧ cv c d = 0
    · rw [if_pos h1] at h
      obtain ⟨L, hL⟩ := val_of (cv_zero.1 h1.1)
      obtain ⟨H, hH⟩ := val_of (cv_zero.1 h1.2)
      refine ⟨L, H, hL, hH, ?_⟩
      by_cases h2 : 0 < Rat.cmpOut a b c d
      · rw [if_pos h2] at h
        cases h
      · rw [cmp_val hL hH] at h2
        exact cmpQ_le.1 (by omega)
    · rw [if_neg h1] at h
      cases h
  · rintro ⟨L, H, hL, hH, hLH⟩
    rw [if_pos ⟨cv_zero.2 hL.chk, cv_zero.2 hH.chk⟩, cmp_val hL hH]
    have := cmpQ_le.2 hLH
    rw [if_neg (by omega)]
end Go.Proofs.Ytbiegbnncnjnmaa.Iv
