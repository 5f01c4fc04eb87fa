/- Layer 12: the rank of a quantile, as both reckon it. -/
import Derived.Test.YtffnopdpndpngaaMLh
import Derived.Test.YtffnopdpndpngaaMLi
import Derived.Test.YtffnopdpndpngaaMRb
set_option linter.unusedVariables false
set_option linter.unusedSimpArgs false
namespace Go.Proofs.Ytffnopdpndpngaa.Lh
/-- A fraction of a number. -/
def prodQ (num den c : Int) : _root_.Rat := Rat.toQ num den.toNat * Rat.toQ c (1 : Int).toNat
theorem prodQ_mk (num : Int) (D : Nat) (c : Int) : prodQ num D c = mkRat (num * c) D := by
  unfold prodQ Rat.toQ
  rw [_root_.Rat.mkRat_mul_mkRat, Int.toNat_natCast]
  simp
theorem prodQ_neg (num : Int) (den c : Int) : prodQ num den (-c) = -prodQ num den c := by
  unfold prodQ
  rw [Rat.toQ_neg, _root_.Rat.mul_neg]
/-- The greatest integer that is at most a fraction. -/
theorem mk_floor (a : Int) (d : Nat) (h : d ≠ 0) : (mkRat a d).num / ((mkRat a d).den : Int) = a / (d : Int) := by
  obtain ⟨m, hm, e1, e2⟩ := _root_.Rat.mkRat_num_den h (show mkRat a d = ⟨(mkRat a d).num, (mkRat a d).den, (mkRat a d).den_nz, (mkRat a d).reduced⟩ from rfl)
  generalize (mkRat a d).num = x at *
  generalize (mkRat a d).den = y at *
  subst e1
  subst e2
  rw [Int.natCast_mul, Int.mul_ediv_mul_of_pos_left _ _ (by omega)]
def rkQ (num den c : Int) : Int := max (-(-(prodQ num den c).num / ((prodQ num den c).den : Int))) 1
theorem rkQ_is {num den : Int} (hd : 0 < den) (c : Int) : rkQ num den c = rankN num den c := by
  obtain ⟨D, rfl⟩ : ∃ D : Nat, den = D := ⟨den.toNat, by omega⟩
  unfold rkQ rankN
  have e : -(prodQ num D c).num / ((prodQ num D c).den : Int) = num * -c / (D : Int) := by
    have h1 := prodQ_neg num D c
    have h2 : (prodQ num D (-c)).num / ((prodQ num D (-c)).den : Int) = num * -c / (D : Int) := by
      rw [prodQ_mk, mk_floor _ _ (by omega)]
    rw [h1] at h2
    simpa using h2
  rw [e]
  omega
/-- The reference's way. -/
theorem rkQ_ref {num den : Int} (c : Int) : max 1 (-((prodQ num den (-c)).num / ((prodQ num den (-c)).den : Int))) = rkQ num den c := by
  rw [prodQ_neg]
  unfold rkQ
  simp only [_root_.Rat.neg_num, _root_.Rat.neg_den]
  omega
theorem fits_neg (q : _root_.Rat) : Rat.FitsQ (-q) ↔ Rat.FitsQ q := by
  unfold Rat.FitsQ
  simp
theorem rkQ_in {num den c : Int} (hd : 0 < den) (h0 : 0 ≤ num) (h1 : num ≤ den) (hc : 1 ≤ c) : 1 ≤ rkQ num den c ∧ rkQ num den c ≤ c := by
  rw [rkQ_is hd]
  exact rankN_in hd h0 h1 hc
instance (q : _root_.Rat) : Decidable (Rat.FitsQ q) := by unfold Rat.FitsQ; infer_instance
def quantO (h : H) (num den : Int) : Value :=
  if chk h ≠ 0 ∨ ¬ Rat.chk num den then .tuple #[.int .i64 0, .int .i64 0, .int .i64 1]
  else if num < 0 ∨ den < num then .tuple #[.int .i64 0, .int .i64 0, .int .i64 2]
  else if h.c = 0 then .tuple #[.int .i64 0, .int .i64 0, .int .i64 28]
  else if Rat.FitsQ (prodQ num den h.c) then .tuple #[.int .i64 (lowH h (qI (rkQ num den h.c) h.bs)), .int .i64 (highH h (qI (rkQ num den h.c) h.bs)), .int .i64 0]
  else .tuple #[.int .i64 0, .int .i64 0, .int .i64 14]
/-- Small denominators and counts fit. -/
theorem fits_small {num den c : Int} (hd : 0 < den) (hd2 : den ≤ 1073741824) (h0 : 0 ≤ num) (h1 : num ≤ den) (hc : 0 ≤ c ∧ c ≤ 1048576) : Rat.FitsQ (prodQ num den c) := by
  obtain ⟨D, rfl⟩ : ∃ D : Nat, den = D := ⟨den.toNat, by omega⟩
  rw [prodQ_mk]
  obtain ⟨m, hm, e1, e2⟩ := _root_.Rat.mkRat_num_den (show D ≠ 0 by omega) (show mkRat (num * c) D = ⟨(mkRat (num * c) D).num, (mkRat (num * c) D).den, (mkRat (num * c) D).den_nz, (mkRat (num * c) D).reduced⟩ from rfl)
  have h3 : num * c ≤ 1073741824 * 1048576 := Int.mul_le_mul (by omega) hc.2 hc.1 (by omega)
  have h4 : 0 ≤ num * c := Int.mul_nonneg h0 hc.1
  unfold Rat.FitsQ Rat.big
  generalize (mkRat (num * c) D).num = x at *
  generalize (mkRat (num * c) D).den = y at *
  generalize num * c = t at *
  refine ⟨?_, ?_⟩
  · have : x.natAbs ≤ t.natAbs := by
      rw [e1, Int.natAbs_mul, Int.natAbs_natCast]
      exact Nat.le_mul_of_pos_right _ (by omega)
    omega
  · have : y ≤ D := by
      rw [e2]
      exact Nat.le_mul_of_pos_right _ (by omega)
    omega
end Go.Proofs.Ytffnopdpndpngaa.Lh
