/- The program's numbers of two words: divide. -/
import Derived.Test.YtbiegbnncnjnmaaPE
set_option linter.unusedVariables false
set_option linter.unusedSimpArgs false
namespace Go.Proofs.Ytbiegbnncnjnmaa.Pro
open Go.RowKit
theorem W_cast {x y : Int} (h : x = y) : W x = W y := by rw [h]
theorem divide_lt (a b : Nat) (h : a < b) (hb : b < 170141183460469231731687303715884105728) (ha : a < 85070591730234615865843651857942052864) (w : World) :
    Calls Try.prog 98 #[W a, W b] w fun e w' => e = .returned (.tuple #[W (a / b : Nat), W (a % b : Nat)]) ∧ Below w.heap.size w w' := by
  rw [Nat.div_eq_of_lt h, Nat.mod_eq_of_lt h]
  by_cases hw : b < 18446744073709551616
  · have h1 := divide_word a b (by omega) hw (by omega) w
    rw [Nat.div_eq_of_lt h, Nat.mod_eq_of_lt h] at h1
    exact h1
  · have LT := fun w => less_any (a : Int) (b : Int) (by unfold near; omega) w
    rw [decide_eq_true (show (a : Int) < b by omega)] at LT
    rw [show W ((0 : Nat) : Int) = .agg #[.int .u64 0, .int .u64 0] from W_small 0 (by decide) (by decide)]
    by_cases h0 : hiW a = 0
    · have g : (hiW b == 0) = false := by
        simp only [beq_eq_false_iff_ne, ne_eq]
        intro h1
        exact hw (by have := (hi_small b (by omega) (by omega)).1 h1; omega)
      unfold W at LT ⊢
      rw [h0] at LT ⊢
      exact divide_less2 _ _ _ g (Lib.hid LT) w
    · exact divide_less1 _ _ _ _ (by simp [h0]) (Lib.hid LT) w
theorem div_twice1 {a b : Nat} (hr : a % (2 * b) < b) : a / b = 2 * (a / (2 * b)) ∧ a % b = a % (2 * b) := by
  have h := Nat.div_add_mod a (2 * b)
  generalize a / (2 * b) = q at *
  generalize a % (2 * b) = r at *
  have e : a = r + b * (2 * q) := by rw [← h]; ac_rfl
  rw [e, Nat.add_mul_div_left _ _ (by omega), Nat.add_mul_mod_self_left, Nat.div_eq_of_lt hr, Nat.mod_eq_of_lt hr]
  omega
theorem div_twice2 {a b : Nat} (h0 : 0 < b) (hr : ¬ a % (2 * b) < b) : a / b = 2 * (a / (2 * b)) + 1 ∧ a % b = a % (2 * b) - b := by
  have h := Nat.div_add_mod a (2 * b)
  have h2 := Nat.mod_lt a (show 0 < 2 * b by omega)
  generalize a / (2 * b) = q at *
  generalize a % (2 * b) = r at *
  have e : a = (r - b) + b * (2 * q + 1) := by
    rw [← h, Nat.mul_add, Nat.mul_one, show b * (2 * q) = 2 * b * q by ac_rfl]
    omega
  rw [e, Nat.add_mul_div_left _ _ (by omega), Nat.add_mul_mod_self_left, Nat.div_eq_of_lt (by omega), Nat.mod_eq_of_lt (by omega)]
  omega
theorem divide_go : ∀ (k a b : Nat), 0 < b → b < 170141183460469231731687303715884105728 → a < 85070591730234615865843651857942052864 → a < b * 2 ^ k → ∀ (w : World),
    Calls Try.prog 98 #[W a, W b] w fun e w' => e = .returned (.tuple #[W (a / b : Nat), W (a % b : Nat)]) ∧ Below w.heap.size w w' := by
  intro k
  induction k with
  | zero => intro a b h0 hb ha hk w; exact divide_lt a b (by omega) hb ha w
  | succ k ih =>
    intro a b h0 hb ha hk w
    by_cases hlt : a < b
    · exact divide_lt a b hlt hb ha w
    · by_cases hw : a < 18446744073709551616
      · exact divide_word a b hw (by omega) h0 w
      · have g : (hiW a == 0) = false := by
          simp only [beq_eq_false_iff_ne, ne_eq]
          intro h1
          exact hw (by have := (hi_small a (by omega) (by omega)).1 h1; omega)
        have LT := fun w => less_any (a : Int) (b : Int) (by unfold near; omega) w
        rw [decide_eq_false (show ¬ (a : Int) < b by omega)] at LT
        have PL := fun w => plus_any (b : Int) (b : Int) w
        rw [show (b : Int) + b = ((2 * b : Nat) : Int) by omega] at PL
        have DV := ih a (2 * b) (by omega) (by omega) ha (by rw [Nat.pow_succ] at hk; rw [show 2 * b * 2 ^ k = b * (2 ^ k * 2) by ac_rfl]; exact hk)
        have hq : a / (2 * b) ≤ a := Nat.div_le_self _ _
        have hr := Nat.mod_lt a (show 0 < 2 * b by omega)
        have PQ := fun w => plus_any ((a / (2 * b) : Nat) : Int) ((a / (2 * b) : Nat) : Int) w
        have LR := fun w => less_any ((a % (2 * b) : Nat) : Int) (b : Int) (by unfold near; omega) w
        by_cases hrb : a % (2 * b) < b
        · obtain ⟨e1, e2⟩ := div_twice1 hrb
          rw [e1, e2]
          rw [decide_eq_true (show ((a % (2 * b) : Nat) : Int) < b by omega)] at LR
          rw [show ((a / (2 * b) : Nat) : Int) + (a / (2 * b) : Nat) = ((2 * (a / (2 * b)) : Nat) : Int) by omega] at PQ
          exact divide_stepA _ _ _ _ _ _ _ _ _ _ _ _ g (Lib.hid LT) (Lib.hid PL) (Lib.hid DV) (Lib.hid PQ) (Lib.hid LR) w
        · obtain ⟨e1, e2⟩ := div_twice2 h0 hrb
          rw [e1, e2]
          rw [decide_eq_false (show ¬ ((a % (2 * b) : Nat) : Int) < b by omega)] at LR
          rw [show ((a / (2 * b) : Nat) : Int) + (a / (2 * b) : Nat) = ((2 * (a / (2 * b)) : Nat) : Int) by omega] at PQ
          have W1 := fun w => widen_any 1 (by unfold inI; omega) w
          rw [W_small 1 (by decide) (by decide)] at W1
          have PO := fun w => plus_any ((2 * (a / (2 * b)) : Nat) : Int) 1 w
          rw [W_small 1 (by decide) (by decide), show ((2 * (a / (2 * b)) : Nat) : Int) + 1 = ((2 * (a / (2 * b)) + 1 : Nat) : Int) by omega] at PO
          have MI := fun w => minus_any ((a % (2 * b) : Nat) : Int) (b : Int) w
          rw [show ((a % (2 * b) : Nat) : Int) - b = ((a % (2 * b) - b : Nat) : Int) by omega] at MI
          exact divide_stepB _ _ _ _ _ _ _ _ _ _ _ _ _ _ _ _ g (Lib.hid LT) (Lib.hid PL) (Lib.hid DV) (Lib.hid PQ) (Lib.hid LR) (Lib.hid W1) (Lib.hid PO) (Lib.hid MI) w
theorem divide_any (a b : Nat) (h0 : 0 < b) (hb : b < 170141183460469231731687303715884105728) (ha : a < 85070591730234615865843651857942052864) (w : World) :
    Calls Try.prog 98 #[W a, W b] w fun e w' => e = .returned (.tuple #[W (a / b : Nat), W (a % b : Nat)]) ∧ Below w.heap.size w w' :=
  divide_go 127 a b h0 hb ha (by
    have : 170141183460469231731687303715884105728 = 2 ^ 127 := by decide
    have h := Nat.mul_le_mul_right (2 ^ 127) h0
    omega) w
end Go.Proofs.Ytbiegbnncnjnmaa.Pro
