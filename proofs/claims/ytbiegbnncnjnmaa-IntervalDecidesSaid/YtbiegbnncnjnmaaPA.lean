/- The program's numbers of two words: each function by its contract. -/
import Derived.Test.YtbiegbnncnjnmaaPKit
import Derived.Test.YtbiegbnncnjnmaaShelf
set_option linter.unusedVariables false
set_option linter.unusedSimpArgs false
namespace Go.Proofs.Ytbiegbnncnjnmaa.Pro
open Go.RowKit

/-- The model's entry for math/bits.Sub64. -/
def subEntry : Array Value → Sem Value := fun args => do
  let (x, y, b) ← Extern.MathBitsCarry.three "Sub64" args
  pure (Extern.MathBitsCarry.pair ((x + Extern.MathBitsCarry.m64 - y - b) % Extern.MathBitsCarry.m64) (if x < y + b then 1 else 0))
theorem run_subEntry (P : Program) (x y b : Nat) (hb : b ≤ 1) (w : World) :
    (subEntry #[.int .u64 x, .int .u64 y, .int .u64 b]).run P w =
      .ok (.tuple #[.int .u64 (((x + 18446744073709551616 - y - b) % 18446744073709551616 : Nat) : Int), .int .u64 ((if x < y + b then 1 else 0 : Nat) : Int)]) w := by
  have : b = 0 ∨ b = 1 := by omega
  rcases this with rfl | rfl <;> rfl
/-- The carry of the low words. -/
def car (x y : Int) : Int := (loW x + loW y) / 18446744073709551616
theorem add64_lo (x y : Int) (w : World) : (callFunc 100 #[.int .u64 (loW x), .int .u64 (loW y), .int .u64 0]).run Try.prog w =
    .ok (.value (.tuple #[.int .u64 (loW (x + y)), .int .u64 (car x y)])) w := by
  obtain ⟨a, ha⟩ := Int.eq_ofNat_of_zero_le (lo0 x)
  obtain ⟨b, hb⟩ := Int.eq_ofNat_of_zero_le (lo0 y)
  have h1 := lo1 x
  have h2 := lo1 y
  rw [← lo_add]
  unfold car
  rw [ha, hb] at *
  rw [run_callFunc_extern Try.func100 (by kernel_rfl) (by kernel_rfl) (by kernel_rfl) (e := add64Entry) (by kernel_rfl)]
  refine (congrArg (Result.andThen · _) (run_add64 (P := Try.prog) a b 0 (by omega) (by omega) (by omega) (by omega) w)).trans ?_
  simp only [Result.andThen]
  congr 5 <;> omega
theorem sub64_run (x y b : Int) (hx : 0 ≤ x) (hy : 0 ≤ y) (hy' : y < 18446744073709551616) (hb0 : 0 ≤ b) (hb : b ≤ 1) (w : World) : (callFunc 102 #[.int .u64 x, .int .u64 y, .int .u64 b]).run Try.prog w =
    .ok (.value (.tuple #[.int .u64 ((x - y - b) % 18446744073709551616), .int .u64 (if x < y + b then 1 else 0)])) w := by
  obtain ⟨x, rfl⟩ := Int.eq_ofNat_of_zero_le hx
  obtain ⟨y, rfl⟩ := Int.eq_ofNat_of_zero_le hy
  obtain ⟨b, rfl⟩ := Int.eq_ofNat_of_zero_le hb0
  have e1 : (((x + 18446744073709551616 - y - b) % 18446744073709551616 : Nat) : Int) = ((x : Int) - y - b) % 18446744073709551616 := by omega
  have e2 : ((if x < y + b then 1 else 0 : Nat) : Int) = if (x : Int) < y + b then 1 else 0 := by split <;> split <;> omega
  rw [← e1, ← e2]
  rw [run_callFunc_extern Try.func102 (by kernel_rfl) (by kernel_rfl) (by kernel_rfl) (e := subEntry) (by kernel_rfl)]
  exact congrArg (Result.andThen · _) (run_subEntry Try.prog x y b (by omega) w)
theorem sub64_lo (x y : Int) (w : World) : (callFunc 102 #[.int .u64 (loW x), .int .u64 (loW y), .int .u64 0]).run Try.prog w =
    .ok (.value (.tuple #[.int .u64 (loW (x - y)), .int .u64 (bor (loW x) (loW y))])) w := by
  have h := sub64_run (loW x) (loW y) 0 (lo0 x) (lo0 y) (lo1 y) (Int.le_refl 0) (by decide) w
  rw [h, ← lo_sub, Int.sub_zero, Int.add_zero]; rfl
theorem top3 (w : World) (A B C : Obj) : (((w.alloc A).alloc B).alloc C).heap[w.heap.size + 1 + 1]? = some C := by
  have h := heap_alloc_new ((w.alloc A).alloc B) C
  rw [World.size_alloc, World.size_alloc] at h
  exact h
theorem low3 (w : World) (A B C : Obj) : Below w.heap.size w (((w.alloc A).alloc B).alloc C) :=
  (((Below.refl w.heap.size w).alloc (Nat.le_refl _) A).alloc (by simp) B).alloc (by simp; omega) C
theorem ret_W {a b : Int} {z : Int} (h1 : a = hiW z) (h2 : b = loW z) : Ending.returned (.agg #[.int .u64 a, .int .u64 b]) = .returned (W z) := by rw [h1, h2]; rfl
theorem widen_any (n : Int) (hn : inI n) (w : World) :
    Calls Try.prog 84 #[.int .i64 n] w fun e w' => e = .returned (W n) ∧ Below w.heap.size w w' := by
  obtain ⟨h1, h2⟩ := hn
  go_enter Try.func84, Try.ntmps84
  go_wp2
  refine bodyPost_ret (results_cell_row rfl _ _ w.heap.size 65 _ (0, 0) _ rfl (heap_alloc_new w _) Try.underlying65 rfl info46) rfl ?_
  refine ⟨ret_W ?_ ?_, (Below.refl _ _).alloc (Nat.le_refl _) _⟩
  · rw [IntKind.wrap_u64]; unfold hiW; omega
  · rw [IntKind.wrap_u64]; rfl
theorem plus_any (x y : Int) (w : World) :
    Calls Try.prog 82 #[W x, W y] w fun e w' => e = .returned (W (x + y)) ∧ Below w.heap.size w w' := by
  have A := add64_lo x y
  unfold W
  generalize hc : car x y = c at *
  generalize h1 : hiW x = a1 at *
  generalize h2 : loW x = a2 at *
  generalize h3 : hiW y = b1 at *
  generalize h4 : loW y = b2 at *
  have HA := Lib.hid A
  go_enter Try.func82, Try.ntmps82
  go_wp2_with (simp only [HA.out])
  refine bodyPost_ret (results_cell_row rfl _ _ (w.heap.size + 1 + 1) 65 _ (0, 0) _ rfl (top3 w _ _ _) Try.underlying65 rfl info46) rfl ?_
  refine ⟨ret_W ?_ rfl, low3 w _ _ _⟩
  subst hc h1 h2 h3 h4
  rw [IntKind.wrap_u64, IntKind.wrap_u64, ← hi_add]; unfold car; omega
theorem minus_any (x y : Int) (w : World) :
    Calls Try.prog 86 #[W x, W y] w fun e w' => e = .returned (W (x - y)) ∧ Below w.heap.size w w' := by
  have A := sub64_lo x y
  unfold W
  generalize hc : bor (loW x) (loW y) = c at *
  generalize h1 : hiW x = a1 at *
  generalize h2 : loW x = a2 at *
  generalize h3 : hiW y = b1 at *
  generalize h4 : loW y = b2 at *
  have HA := Lib.hid A
  go_enter Try.func86, Try.ntmps86
  go_wp2_with (simp only [HA.out])
  refine bodyPost_ret (results_cell_row rfl _ _ (w.heap.size + 1 + 1) 65 _ (0, 0) _ rfl (top3 w _ _ _) Try.underlying65 rfl info46) rfl ?_
  refine ⟨ret_W ?_ rfl, low3 w _ _ _⟩
  subst hc h1 h2 h3 h4
  rw [IntKind.wrap_u64, IntKind.wrap_u64, ← hi_sub]; omega
theorem negative_any (z : Int) (h1 : -170141183460469231731687303715884105728 ≤ z) (h2 : z < 170141183460469231731687303715884105728) (w : World) :
    Calls Try.prog 87 #[W z] w fun e w' => e = .returned (.bool (decide (z < 0))) ∧ Below w.heap.size w w' := by
  have h := hi_neg z h1 h2
  have h3 := hi0 z
  have h4 := hi1 z
  unfold W
  generalize hiW z = a at *
  generalize loW z = b at *
  by_cases hz : z < 0
  · rw [decide_eq_true hz]
    have g : wrap64 a < 0 := by unfold wrap64; omega
    go_enter Try.func87, Try.ntmps87
    go_wp2
    go_ret
    exact ⟨by simp <;> omega, (Below.refl _ _).alloc (Nat.le_refl _) _⟩
  · rw [decide_eq_false hz]
    have g : ¬ wrap64 a < 0 := by unfold wrap64; omega
    go_enter Try.func87, Try.ntmps87
    go_wp2
    go_ret
    exact ⟨by simp <;> omega, (Below.refl _ _).alloc (Nat.le_refl _) _⟩

theorem top2 (w : World) (A B : Obj) : ((w.alloc A).alloc B).heap[w.heap.size + 1]? = some B := by
  have h := heap_alloc_new (w.alloc A) B
  rw [World.size_alloc] at h
  exact h
theorem agg_l {u v u' : Int} (h : u = u') : Ending.returned (.agg #[.int .u64 u, .int .u64 v]) = .returned (.agg #[.int .u64 u', .int .u64 v]) := by rw [h]
theorem times_any (x y : Int) (w : World) :
    Calls Try.prog 85 #[W x, W y] w fun e w' => e = .returned (W (x * y)) ∧ Below w.heap.size w w' := by
  obtain ⟨a, ha⟩ := Int.eq_ofNat_of_zero_le (lo0 x)
  obtain ⟨b, hb⟩ := Int.eq_ofNat_of_zero_le (lo0 y)
  have l1 := lo1 x
  have l2 := lo1 y
  have hh := hi_mul x y
  have hl := lo_mul x y
  unfold W
  rw [ha] at *
  rw [hb] at *
  have A := Lib.hid fun w => Try.bits_Mul64 a b (by omega) (by omega) w
  have e1 : ((a * b / 18446744073709551616 : Nat) : Int) = (a : Int) * b / 18446744073709551616 := by simp
  have e2 : ((a * b % 18446744073709551616 : Nat) : Int) = loW (x * y) := by rw [← hl]; simp
  rw [e2, e1] at A
  rw [← hh]
  generalize (a : Int) * b / 18446744073709551616 = c at *
  generalize hiW x = a1 at *
  generalize hiW y = b1 at *
  generalize loW (x * y) = l at *
  generalize hA : (a : Int) = a' at *
  generalize hB : (b : Int) = b' at *
  clear hA hB
  go_enter Try.func85, Try.ntmps85
  go_wp2_with fail
  refine (A.out _).mono ?_
  rintro e w1 ⟨rfl, rfl⟩
  go_wp2
  refine bodyPost_ret (results_cell_row rfl _ _ (w.heap.size + 1 + 1) 65 _ (0, 0) _ rfl (top3 w _ _ _) Try.underlying65 rfl info46) rfl ?_
  refine ⟨?_, low3 w _ _ _⟩
  refine agg_l ?_
  simp only [IntKind.wrap_u64]
  omega
end Go.Proofs.Ytbiegbnncnjnmaa.Pro
