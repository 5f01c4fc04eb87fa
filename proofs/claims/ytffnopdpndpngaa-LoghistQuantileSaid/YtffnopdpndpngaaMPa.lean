/- Plain facts on numbers of two words of 64 bits, in two's complement. What a call has laid, carried from call to call. The program's numbers of two words: each function by its contract. The program's numbers of two words: less, magnitude, product, narrow. The program's numbers of two words: divide. The program's numbers of two words: the step of divide. What the deferred closures of Make, Add and Mul do: at a panic they set the error, else nothing. -/
import Derived.WalkKit
import Derived.Test.YtffnopdpndpngaaChecked
import Derived.WalkSpells
import Derived.WalkLawsBesides
import Derived.Lib.Hide
import Derived.IntWalk
import Derived.KernelRfl
import Derived.BigRegion
import Derived.Outline
import Derived.Below
import Derived.Deep.RegionHeld3
import Derived.Deep.Cut
import Derived.Deep.CutRange
import Derived.Laws.Externs
import Derived.Test.YtffnopdpndpngaaShelf
import Derived.Defers
import Derived.Recover
import Derived.Laws.Pointers
set_option linter.unusedVariables false
set_option linter.unusedSimpArgs false
namespace Go.Proofs.Ytffnopdpndpngaa.Pro

/-- The low and the high word of a number. -/
def loW (z : Int) : Int := z % 18446744073709551616
def hiW (z : Int) : Int := z / 18446744073709551616 % 18446744073709551616
/-- A number of two words, as a value. -/
def W (z : Int) : Value := .agg #[.int .u64 (hiW z), .int .u64 (loW z)]
theorem lo0 (z : Int) : 0 ≤ loW z := by unfold loW; omega
theorem lo1 (z : Int) : loW z < 18446744073709551616 := by unfold loW; omega
theorem hi0 (z : Int) : 0 ≤ hiW z := by unfold hiW; omega
theorem hi1 (z : Int) : hiW z < 18446744073709551616 := by unfold hiW; omega
theorem lo_add (x y : Int) : (loW x + loW y) % 18446744073709551616 = loW (x + y) := by unfold loW; omega
theorem hi_add (x y : Int) : (hiW x + hiW y + (loW x + loW y) / 18446744073709551616) % 18446744073709551616 = hiW (x + y) := by unfold loW hiW; omega
theorem lo_sub (x y : Int) : (loW x - loW y) % 18446744073709551616 = loW (x - y) := by unfold loW; omega
/-- The borrow. -/
def bor (x y : Int) : Int := if x < y then 1 else 0
theorem bor0 (x y : Int) : 0 ≤ bor x y := by unfold bor; split <;> omega
theorem bor1 (x y : Int) : bor x y ≤ 1 := by unfold bor; split <;> omega
theorem hi_sub (x y : Int) : (hiW x - hiW y - bor (loW x) (loW y)) % 18446744073709551616 = hiW (x - y) := by unfold bor loW hiW; split <;> omega
theorem split_w (x : Int) : ∃ a, x = a * 18446744073709551616 + loW x ∧ hiW x = a % 18446744073709551616 := ⟨x / 18446744073709551616, by unfold loW; omega, rfl⟩
theorem lo_mul (x y : Int) : (loW x * loW y) % 18446744073709551616 = loW (x * y) := by unfold loW; rw [← Int.mul_emod]
theorem hi_mul (x y : Int) : (loW x * loW y / 18446744073709551616 + hiW x * loW y + loW x * hiW y) % 18446744073709551616 = hiW (x * y) := by
  obtain ⟨a, ha, ha'⟩ := split_w x
  obtain ⟨b, hb, hb'⟩ := split_w y
  have e : x * y = (a * b * 18446744073709551616 + a * loW y + loW x * b) * 18446744073709551616 + loW x * loW y := by
    conv => lhs; rw [ha, hb]
    simp only [Int.add_mul, Int.mul_add]
    rw [show a * 18446744073709551616 * (b * 18446744073709551616) = a * b * 18446744073709551616 * 18446744073709551616 by ac_rfl, show a * 18446744073709551616 * loW y = a * loW y * 18446744073709551616 by ac_rfl, show loW x * (b * 18446744073709551616) = loW x * b * 18446744073709551616 by ac_rfl]
    omega
  have e2 : x * y / 18446744073709551616 = a * b * 18446744073709551616 + a * loW y + loW x * b + loW x * loW y / 18446744073709551616 := by
    rw [e, Int.add_comm, Int.add_mul_ediv_right _ _ (by decide)]; omega
  show _ = x * y / 18446744073709551616 % 18446744073709551616
  rw [e2, ha', hb']
  have m1 : a % 18446744073709551616 * loW y % 18446744073709551616 = a * loW y % 18446744073709551616 := by rw [Int.mul_emod, Int.emod_emod_of_dvd _ (Int.dvd_refl _), ← Int.mul_emod]
  have m2 : loW x * (b % 18446744073709551616) % 18446744073709551616 = loW x * b % 18446744073709551616 := by rw [Int.mul_emod, Int.emod_emod_of_dvd _ (Int.dvd_refl _), ← Int.mul_emod]
  have m3 : a * b * 18446744073709551616 % 18446744073709551616 = 0 := Int.mul_emod_left _ _
  generalize a % 18446744073709551616 * loW y = p1 at *
  generalize loW x * (b % 18446744073709551616) = p2 at *
  generalize a * loW y = q1 at *
  generalize loW x * b = q2 at *
  generalize a * b = q3 at *
  generalize loW x * loW y / 18446744073709551616 = q4 at *
  omega
theorem hi_neg (z : Int) (h1 : -170141183460469231731687303715884105728 ≤ z) (h2 : z < 170141183460469231731687303715884105728) : (9223372036854775808 ≤ hiW z) ↔ z < 0 := by unfold hiW; omega
theorem hi_small (z : Int) (h1 : 0 ≤ z) (h2 : z < 170141183460469231731687303715884105728) : hiW z = 0 ↔ z < 18446744073709551616 := by unfold hiW; omega
theorem lo_small (z : Int) (h1 : 0 ≤ z) (h2 : z < 18446744073709551616) : loW z = z := by unfold loW; omega
theorem hi_zero (z : Int) (h1 : 0 ≤ z) (h2 : z < 18446744073709551616) : hiW z = 0 := by unfold hiW; omega
theorem W_small (z : Int) (h1 : 0 ≤ z) (h2 : z < 18446744073709551616) : W z = .agg #[.int .u64 0, .int .u64 z] := by unfold W; rw [lo_small z h1 h2, hi_zero z h1 h2]
theorem W_form (z : Int) : ∃ x y : Int, W z = .agg #[.int .u64 x, .int .u64 y] ∧ x = hiW z ∧ y = loW z := ⟨_, _, rfl, rfl, rfl⟩
theorem W_inj {x y : Int} (hx : 0 ≤ x) (hx' : x < 170141183460469231731687303715884105728) (hy : 0 ≤ y) (hy' : y < 170141183460469231731687303715884105728) (h1 : hiW x = hiW y) (h2 : loW x = loW y) : x = y := by unfold loW hiW at *; omega
end Go.Proofs.Ytffnopdpndpngaa.Pro
namespace Go.Proofs.Ytffnopdpndpngaa.Pro
open Go.RowKit

/-- The blocks of L hold what L says; all that was there stands as it stood. -/
def Has (w : World) (L : List (Nat × Array Value × TypeId)) (V : World) : Prop :=
  Below w.heap.size w V ∧ ∀ x ∈ L, V.heap[x.1]? = some (.cells x.2.1 x.2.2 (0, 0)) ∧ w.heap.size ≤ x.1
theorem Has.start (w : World) : Has w [] w := ⟨Below.refl _ _, fun _ h => by cases h⟩
theorem Has.lt {w V : World} {L : List (Nat × Array Value × TypeId)} (h : Has w L V) {x : Nat × Array Value × TypeId} (hx : x ∈ L) : x.1 < V.heap.size := (Array.getElem?_eq_some_iff.1 (h.2 x hx).1).1
theorem Has.alloc {w V : World} {L : List (Nat × Array Value × TypeId)} (h : Has w L V) (cs : Array Value) (t : TypeId) : Has w ((V.heap.size, cs, t) :: L) (V.alloc (.cells cs t)) := by
  refine ⟨h.1.alloc (h.1.size) _, fun x hx => ?_⟩
  rcases List.mem_cons.1 hx with rfl | hx
  · exact ⟨heap_alloc_new _ _, h.1.size⟩
  · exact ⟨(heap_alloc_old _ _ (h.lt hx)).trans (h.2 x hx).1, (h.2 x hx).2⟩
theorem Has.step {w V V2 : World} {L : List (Nat × Array Value × TypeId)} (h : Has w L V) (hb : Below V.heap.size V V2) : Has w L V2 :=
  ⟨h.1.trans (hb.mono h.1.size), fun x hx => ⟨(hb.block _ (h.lt hx)).trans (h.2 x hx).1, (h.2 x hx).2⟩⟩
theorem Has.drew {w V : World} {L : List (Nat × Array Value × TypeId)} (h : Has w L V) : Has w L V.drew := ⟨h.1.drew, h.2⟩
theorem Has.less {w V : World} {x : Nat × Array Value × TypeId} {L : List (Nat × Array Value × TypeId)} (h : Has w (x :: L) V) : Has w L V := ⟨h.1, fun y hy => h.2 y (List.mem_cons_of_mem _ hy)⟩
theorem Has.sub {w V : World} {L M : List (Nat × Array Value × TypeId)} (h : Has w L V) (hM : ∀ x ∈ M, x ∈ L) : Has w M V := ⟨h.1, fun y hy => h.2 y (hM y hy)⟩
theorem Has.set {w V : World} {L : List (Nat × Array Value × TypeId)} {b : Nat} {cs : Array Value} {t : TypeId} (h : Has w ((b, cs, t) :: L) V) (hL : ∀ x ∈ L, x.1 ≠ b) (j : Nat) (v : Value) :
    Has w ((b, cs.setIfInBounds j v, t) :: L) (V.setCell ⟨b, j, none⟩ v) := by
  have h0 := h.2 _ List.mem_cons_self
  refine ⟨h.1.setCell h0.2 _, fun x hx => ?_⟩
  rcases List.mem_cons.1 hx with rfl | hx
  · exact ⟨heap_setCell_same _ _ _ _ _ _ h0.1, h0.2⟩
  · refine ⟨(heap_setCell_other _ _ _ _ (hL x hx)).trans (h.2 x (List.mem_cons_of_mem _ hx)).1, (h.2 x (List.mem_cons_of_mem _ hx)).2⟩
theorem Has.row {w V : World} {L : List (Nat × Array Value × TypeId)} (h : Has w L V) {b : Nat} {cs : Array Value} {t : TypeId} (hx : (b, cs, t) ∈ L) : V.heap[b]? = some (.cells cs t (0, 0)) := (h.2 _ hx).1
theorem cells2 {w : World} {g : Nat} {x y : Value} {t : TypeId} (h : w.heap[g]? = some (.cells #[x, y] t (0, 0))) : w.cell? ⟨g, 0, none⟩ = some x ∧ w.cell? ⟨g, 1, none⟩ = some y :=
  ⟨(cell_of_row _ _ _ _ _ _ h).trans rfl, (cell_of_row _ _ _ _ _ _ h).trans rfl⟩
theorem cells1 {w : World} {g : Nat} {x : Value} {t : TypeId} (h : w.heap[g]? = some (.cells #[x] t (0, 0))) : w.cell? ⟨g, 0, none⟩ = some x := (cell_of_row _ _ _ _ _ _ h).trans rfl
theorem frozen2 {w : World} {g : Nat} {cs : Array Value} {t : TypeId} (h : w.heap[g]? = some (.cells cs t (0, 0))) : w.frozen? ⟨g, 0, none⟩ = false ∧ w.frozen? ⟨g, 1, none⟩ = false :=
  ⟨frozen_of_row _ _ _ _ _ h, frozen_of_row _ _ _ _ _ h⟩
theorem info46 : (Try.prog.info? 96).map (·.size) = some 2 := by kernel_rfl
theorem info23 : (Try.prog.info? 42).map (·.size) = some 2 := by kernel_rfl
def inI (n : Int) : Prop := -9223372036854775808 ≤ n ∧ n ≤ 9223372036854775807


theorem res_cell_tmp {fn : Func} {p u : Tmp} {ty : TypeId} {P : Program} (h : fn.results = #[.cell p ty, .tmp u]) (tmps : Array Value) (w : World) (g : Nat) (t : TypeId) (cs : Array Value) (fr : Nat × Nat) (d : TypeDesc)
    (hp : tmps.getD p undef = .pointer (some ⟨g, 0, none⟩)) (hg : w.heap[g]? = some (.cells cs t fr))
    (hu : P.underlying ty = some d) (hd : (match d with | .struct _ | .array _ _ => true | _ => false) = true) (hi : (P.info? ty).map (·.size) = some cs.size) :
    (results fn tmps).run P w = .ok (.tuple #[.agg cs, tmps.getD u undef]) w := by
  rw [results_cell_tmp h, hp]
  have hl := run_loadVar_row (P := P) w g t ty cs fr d hg hu (by cases d <;> simp_all) hi
  simp only [asAddr, Sem.run_pure, Result.andThen_ok, hl]
end Go.Proofs.Ytffnopdpndpngaa.Pro
namespace Go.Proofs.Ytffnopdpndpngaa.Pro
open Go.RowKit

/-- The model's entry for math/bits.Sub64. -/
def subEntry : Array Value → Sem Value := fun args => do
  let (x, y, b) ← Extern.MathBitsCarry.three "Sub64" args
  pure (Extern.MathBitsCarry.pair ((x + Extern.MathBitsCarry.m64 - y - b) % Extern.MathBitsCarry.m64) (if x < y + b then 1 else 0))
theorem run_subEntry (P : Program) (x y b : Nat) (hb : b ≤ 1) (w : World) :
    (subEntry #[.int .u64 x, .int .u64 y, .int .u64 b]).run P w =
      .ok (.tuple #[.int .u64 (((x + 18446744073709551616 - y - b) % 18446744073709551616 : Nat) : Int), .int .u64 ((if x < y + b then 1 else 0 : Nat) : Int)]) w := by
  have : b = 0 ∨ b = 1 := by omega
  rcases this with rfl | rfl <;> rfl
/-- The carry of the low words. -/
def car (x y : Int) : Int := (loW x + loW y) / 18446744073709551616
theorem add64_lo (x y : Int) (w : World) : (callFunc 116 #[.int .u64 (loW x), .int .u64 (loW y), .int .u64 0]).run Try.prog w =
    .ok (.value (.tuple #[.int .u64 (loW (x + y)), .int .u64 (car x y)])) w := by
  obtain ⟨a, ha⟩ := Int.eq_ofNat_of_zero_le (lo0 x)
  obtain ⟨b, hb⟩ := Int.eq_ofNat_of_zero_le (lo0 y)
  have h1 := lo1 x
  have h2 := lo1 y
  rw [← lo_add]
  unfold car
  rw [ha, hb] at *
  rw [run_callFunc_extern Try.func116 (by kernel_rfl) (by kernel_rfl) (by kernel_rfl) (e := add64Entry) (by kernel_rfl)]
  refine (congrArg (Result.andThen · _) (run_add64 (P := Try.prog) a b 0 (by omega) (by omega) (by omega) (by omega) w)).trans ?_
  simp only [Result.andThen]
  congr 5 <;> omega
theorem sub64_run (x y b : Int) (hx : 0 ≤ x) (hy : 0 ≤ y) (hy' : y < 18446744073709551616) (hb0 : 0 ≤ b) (hb : b ≤ 1) (w : World) : (callFunc 115 #[.int .u64 x, .int .u64 y, .int .u64 b]).run Try.prog w =
    .ok (.value (.tuple #[.int .u64 ((x - y - b) % 18446744073709551616), .int .u64 (if x < y + b then 1 else 0)])) w := by
  obtain ⟨x, rfl⟩ := Int.eq_ofNat_of_zero_le hx
  obtain ⟨y, rfl⟩ := Int.eq_ofNat_of_zero_le hy
  obtain ⟨b, rfl⟩ := Int.eq_ofNat_of_zero_le hb0
  have e1 : (((x + 18446744073709551616 - y - b) % 18446744073709551616 : Nat) : Int) = ((x : Int) - y - b) % 18446744073709551616 := by omega
  have e2 : ((if x < y + b then 1 else 0 : Nat) : Int) = if (x : Int) < y + b then 1 else 0 := by split <;> split <;> omega
  rw [← e1, ← e2]
  rw [run_callFunc_extern Try.func115 (by kernel_rfl) (by kernel_rfl) (by kernel_rfl) (e := subEntry) (by kernel_rfl)]
  exact congrArg (Result.andThen · _) (run_subEntry Try.prog x y b (by omega) w)
theorem sub64_lo (x y : Int) (w : World) : (callFunc 115 #[.int .u64 (loW x), .int .u64 (loW y), .int .u64 0]).run Try.prog w =
    .ok (.value (.tuple #[.int .u64 (loW (x - y)), .int .u64 (bor (loW x) (loW y))])) w := by
  have h := sub64_run (loW x) (loW y) 0 (lo0 x) (lo0 y) (lo1 y) (Int.le_refl 0) (by decide) w
  rw [h, ← lo_sub, Int.sub_zero, Int.add_zero]; rfl
theorem top3 (w : World) (A B C : Obj) : (((w.alloc A).alloc B).alloc C).heap[w.heap.size + 1 + 1]? = some C := by
  have h := heap_alloc_new ((w.alloc A).alloc B) C
  rw [World.size_alloc, World.size_alloc] at h
  exact h
theorem low3 (w : World) (A B C : Obj) : Below w.heap.size w (((w.alloc A).alloc B).alloc C) :=
  (((Below.refl w.heap.size w).alloc (Nat.le_refl _) A).alloc (by simp) B).alloc (by simp; omega) C
theorem ret_W {a b : Int} {z : Int} (h1 : a = hiW z) (h2 : b = loW z) : Ending.returned (.agg #[.int .u64 a, .int .u64 b]) = .returned (W z) := by rw [h1, h2]; rfl
theorem widen_any (n : Int) (hn : inI n) (w : World) :
    Calls Try.prog 88 #[.int .i64 n] w fun e w' => e = .returned (W n) ∧ Below w.heap.size w w' := by
  obtain ⟨h1, h2⟩ := hn
  go_enter Try.func88, Try.ntmps88
  go_wp2
  refine bodyPost_ret (results_cell_row rfl _ _ w.heap.size 96 _ (0, 0) _ rfl (heap_alloc_new w _) Try.underlying96 rfl info46) rfl ?_
  refine ⟨ret_W ?_ ?_, (Below.refl _ _).alloc (Nat.le_refl _) _⟩
  · rw [IntKind.wrap_u64]; unfold hiW; omega
  · rw [IntKind.wrap_u64]; rfl
theorem plus_any (x y : Int) (w : World) :
    Calls Try.prog 107 #[W x, W y] w fun e w' => e = .returned (W (x + y)) ∧ Below w.heap.size w w' := by
  have A := add64_lo x y
  unfold W
  generalize hc : car x y = c at *
  generalize h1 : hiW x = a1 at *
  generalize h2 : loW x = a2 at *
  generalize h3 : hiW y = b1 at *
  generalize h4 : loW y = b2 at *
  have HA := Lib.hid A
  go_enter Try.func107, Try.ntmps107
  go_wp2_with (simp only [HA.out])
  refine bodyPost_ret (results_cell_row rfl _ _ (w.heap.size + 1 + 1) 96 _ (0, 0) _ rfl (top3 w _ _ _) Try.underlying96 rfl info46) rfl ?_
  refine ⟨ret_W ?_ rfl, low3 w _ _ _⟩
  subst hc h1 h2 h3 h4
  rw [IntKind.wrap_u64, IntKind.wrap_u64, ← hi_add]; unfold car; omega
theorem minus_any (x y : Int) (w : World) :
    Calls Try.prog 105 #[W x, W y] w fun e w' => e = .returned (W (x - y)) ∧ Below w.heap.size w w' := by
  have A := sub64_lo x y
  unfold W
  generalize hc : bor (loW x) (loW y) = c at *
  generalize h1 : hiW x = a1 at *
  generalize h2 : loW x = a2 at *
  generalize h3 : hiW y = b1 at *
  generalize h4 : loW y = b2 at *
  have HA := Lib.hid A
  go_enter Try.func105, Try.ntmps105
  go_wp2_with (simp only [HA.out])
  refine bodyPost_ret (results_cell_row rfl _ _ (w.heap.size + 1 + 1) 96 _ (0, 0) _ rfl (top3 w _ _ _) Try.underlying96 rfl info46) rfl ?_
  refine ⟨ret_W ?_ rfl, low3 w _ _ _⟩
  subst hc h1 h2 h3 h4
  rw [IntKind.wrap_u64, IntKind.wrap_u64, ← hi_sub]; omega
theorem negative_any (z : Int) (h1 : -170141183460469231731687303715884105728 ≤ z) (h2 : z < 170141183460469231731687303715884105728) (w : World) :
    Calls Try.prog 93 #[W z] w fun e w' => e = .returned (.bool (decide (z < 0))) ∧ Below w.heap.size w w' := by
  have h := hi_neg z h1 h2
  have h3 := hi0 z
  have h4 := hi1 z
  unfold W
  generalize hiW z = a at *
  generalize loW z = b at *
  by_cases hz : z < 0
  · rw [decide_eq_true hz]
    have g : wrap64 a < 0 := by unfold wrap64; omega
    go_enter Try.func93, Try.ntmps93
    go_wp2
    go_ret
    exact ⟨by simp <;> omega, (Below.refl _ _).alloc (Nat.le_refl _) _⟩
  · rw [decide_eq_false hz]
    have g : ¬ wrap64 a < 0 := by unfold wrap64; omega
    go_enter Try.func93, Try.ntmps93
    go_wp2
    go_ret
    exact ⟨by simp <;> omega, (Below.refl _ _).alloc (Nat.le_refl _) _⟩

theorem top2 (w : World) (A B : Obj) : ((w.alloc A).alloc B).heap[w.heap.size + 1]? = some B := by
  have h := heap_alloc_new (w.alloc A) B
  rw [World.size_alloc] at h
  exact h
theorem agg_l {u v u' : Int} (h : u = u') : Ending.returned (.agg #[.int .u64 u, .int .u64 v]) = .returned (.agg #[.int .u64 u', .int .u64 v]) := by rw [h]
theorem times_any (x y : Int) (w : World) :
    Calls Try.prog 94 #[W x, W y] w fun e w' => e = .returned (W (x * y)) ∧ Below w.heap.size w w' := by
  obtain ⟨a, ha⟩ := Int.eq_ofNat_of_zero_le (lo0 x)
  obtain ⟨b, hb⟩ := Int.eq_ofNat_of_zero_le (lo0 y)
  have l1 := lo1 x
  have l2 := lo1 y
  have hh := hi_mul x y
  have hl := lo_mul x y
  unfold W
  rw [ha] at *
  rw [hb] at *
  have A := Lib.hid fun w => Try.bits_Mul64 a b (by omega) (by omega) w
  have e1 : ((a * b / 18446744073709551616 : Nat) : Int) = (a : Int) * b / 18446744073709551616 := by simp
  have e2 : ((a * b % 18446744073709551616 : Nat) : Int) = loW (x * y) := by rw [← hl]; simp
  rw [e2, e1] at A
  rw [← hh]
  generalize (a : Int) * b / 18446744073709551616 = c at *
  generalize hiW x = a1 at *
  generalize hiW y = b1 at *
  generalize loW (x * y) = l at *
  generalize hA : (a : Int) = a' at *
  generalize hB : (b : Int) = b' at *
  clear hA hB
  go_enter Try.func94, Try.ntmps94
  go_wp2_with fail
  refine (A.out _).mono ?_
  rintro e w1 ⟨rfl, rfl⟩
  go_wp2
  refine bodyPost_ret (results_cell_row rfl _ _ (w.heap.size + 1 + 1) 96 _ (0, 0) _ rfl (top3 w _ _ _) Try.underlying96 rfl info46) rfl ?_
  refine ⟨?_, low3 w _ _ _⟩
  refine agg_l ?_
  simp only [IntKind.wrap_u64]
  omega
end Go.Proofs.Ytffnopdpndpngaa.Pro
namespace Go.Proofs.Ytffnopdpndpngaa.Pro
open Go.RowKit

/-- What fits in 127 bits and a sign. -/
def near (z : Int) : Prop := -170141183460469231731687303715884105728 ≤ z ∧ z < 170141183460469231731687303715884105728
theorem W_shape (z : Int) : ∃ x y : Int, W z = .agg #[.int .u64 x, .int .u64 y] := ⟨_, _, rfl⟩
theorem top2' (w : World) (A B : Obj) : ((w.alloc A).alloc B).heap[w.heap.size]? = some A := heap_alloc2_old w A B
theorem low2 (w : World) (A B : Obj) : Below w.heap.size w ((w.alloc A).alloc B) := ((Below.refl w.heap.size w).alloc (Nat.le_refl _) A).alloc (by simp) B
set_option maxHeartbeats 1000000 in
set_option maxRecDepth 100000 in
theorem less_any (x y : Int) (h : near (x - y)) (w : World) :
    Calls Try.prog 106 #[W x, W y] w fun e w' => e = .returned (.bool (decide (x < y))) ∧ Below w.heap.size w w' := by
  have A := Lib.hid fun w => minus_any x y w
  have B := Lib.hid fun w => negative_any (x - y) h.1 h.2 w
  have e : decide (x - y < 0) = decide (x < y) := by
    by_cases hz : x < y
    · rw [decide_eq_true hz, decide_eq_true (by omega)]
    · rw [decide_eq_false hz, decide_eq_false (by omega)]
  rw [e] at B
  obtain ⟨x1, x2, hx⟩ := W_shape x
  obtain ⟨y1, y2, hy⟩ := W_shape y
  obtain ⟨z1, z2, hz⟩ := W_shape (x - y)
  rw [hx, hy, hz] at A
  rw [hz] at B
  rw [hx, hy]
  generalize decide (x < y) = b at *
  clear hx hy hz e h
  go_enter Try.func106, Try.ntmps106
  go_wp2_with fail
  refine (A.out _).mono ?_
  rintro e w1 ⟨rfl, hb1⟩
  have H1 : Hid (Below w.heap.size w w1) := (low2 w _ _).trans (hb1.mono (by simp; omega))
  clear hb1
  go_wp2_with fail
  refine (B.out _).mono ?_
  rintro e w2 ⟨rfl, hb2⟩
  have H2 : Hid (Below w.heap.size w w2) := H1.out.trans (hb2.mono H1.out.size)
  clear hb2 H1
  go_wp2
  go_ret
  exact ⟨rfl, H2.out⟩
set_option maxHeartbeats 1000000 in
set_option maxRecDepth 100000 in
theorem product_any (x y : Int) (h1 : inI x) (h2 : inI y) (w : World) :
    Calls Try.prog 74 #[.int .i64 x, .int .i64 y] w fun e w' => e = .returned (W (x * y)) ∧ Below w.heap.size w w' := by
  have A := Lib.hid fun w => widen_any x h1 w
  have B := Lib.hid fun w => widen_any y h2 w
  have C := Lib.hid fun w => times_any x y w
  obtain ⟨x1, x2, hx⟩ := W_shape x
  obtain ⟨y1, y2, hy⟩ := W_shape y
  obtain ⟨z1, z2, hz⟩ := W_shape (x * y)
  rw [hx] at A C
  rw [hy] at B C
  rw [hz] at C ⊢
  clear hx hy hz h1 h2
  go_enter Try.func74, Try.ntmps74
  go_wp2_with fail
  refine (A.out _).mono ?_
  rintro e w1 ⟨rfl, hb1⟩
  have T1 := Lib.hid (((Has.start w).alloc #[.int .u64 0, .int .u64 0] 96).step hb1)
  clear hb1
  go_wp2_with fail
  refine (B.out _).mono ?_
  rintro e w2 ⟨rfl, hb2⟩
  have T2 := Lib.hid (T1.out.step hb2)
  clear hb2 T1
  go_wp2_with fail
  refine (C.out _).mono ?_
  rintro e w3 ⟨rfl, hb3⟩
  have T3 := Lib.hid (T2.out.step hb3)
  clear hb3 T2
  obtain ⟨c0, c1⟩ := cells2 (T3.out.row (List.mem_singleton.2 rfl))
  obtain ⟨f0, f1⟩ := frozen2 (T3.out.row (List.mem_singleton.2 rfl))
  go_wp2
  have T4 := (T3.out.set (fun _ h => by cases h) 0 (.int .u64 z1)).set (fun _ h => by cases h) 1 (.int .u64 z2)
  refine bodyPost_ret (results_cell_row rfl _ _ w.heap.size 96 _ (0, 0) _ rfl (T4.row (List.mem_singleton.2 rfl)) Try.underlying96 rfl info46) rfl ?_
  exact ⟨rfl, T4.1⟩
set_option maxHeartbeats 1000000 in
set_option maxRecDepth 100000 in
theorem magnitude_any (x : Int) (h : near x) (h' : near (-x)) (w : World) :
    Calls Try.prog 89 #[W x] w fun e w' => e = .returned (W (x.natAbs : Nat)) ∧ Below w.heap.size w w' := by
  have A := Lib.hid fun w => negative_any x h.1 h.2 w
  have B := Lib.hid fun w => minus_any 0 x w
  obtain ⟨x1, x2, hx⟩ := W_shape x
  have h0 : W 0 = .agg #[.int .u64 0, .int .u64 0] := W_small 0 (by decide) (by decide)
  rw [hx] at A B
  rw [h0] at B
  by_cases hz : x < 0
  · have e : (0 : Int) - x = (x.natAbs : Nat) := by omega
    rw [e] at B
    rw [decide_eq_true hz] at A
    obtain ⟨z1, z2, hz'⟩ := W_shape (x.natAbs : Nat)
    rw [hz'] at B ⊢
    rw [hx]
    clear hx hz' h h' e h0
    go_enter Try.func89, Try.ntmps89
    go_wp2_with fail
    refine (A.out _).mono ?_
    rintro e w1 ⟨rfl, hb1⟩
    have T1 := Lib.hid ((((Has.start w).alloc #[.int .u64 x1, .int .u64 x2] 96).alloc #[.int .u64 0, .int .u64 0] 96).step hb1)
    clear hb1
    rw [World.size_alloc] at T1
    obtain ⟨a0, a1⟩ := cells2 (T1.out.row (List.mem_cons_of_mem _ List.mem_cons_self))
    go_wp2_with fail
    refine (B.out _).mono ?_
    rintro e w2 ⟨rfl, hb2⟩
    have T2 := Lib.hid (T1.out.step hb2)
    clear hb2 T1 a0 a1
    obtain ⟨c0, c1⟩ := cells2 (T2.out.row List.mem_cons_self)
    obtain ⟨f0, f1⟩ := frozen2 (T2.out.row List.mem_cons_self)
    go_wp2
    have hne : ∀ x ∈ [(w.heap.size, #[Value.int .u64 x1, .int .u64 x2], (96 : TypeId))], x.1 ≠ w.heap.size + 1 := fun x hx => by rw [List.mem_singleton.1 hx]; simp
    have T4 := (T2.out.set hne 0 (.int .u64 z1)).set hne 1 (.int .u64 z2)
    refine bodyPost_ret (results_cell_row rfl _ _ (w.heap.size + 1) 96 _ (0, 0) _ rfl (T4.row List.mem_cons_self) Try.underlying96 rfl info46) rfl ?_
    exact ⟨rfl, T4.1⟩
  · have e : ((x.natAbs : Nat) : Int) = x := by omega
    rw [e, hx]
    rw [decide_eq_false hz] at A
    clear hx h h' e B h0
    go_enter Try.func89, Try.ntmps89
    go_wp2_with fail
    refine (A.out _).mono ?_
    rintro e w1 ⟨rfl, hb1⟩
    have T1 := Lib.hid ((((Has.start w).alloc #[.int .u64 x1, .int .u64 x2] 96).alloc #[.int .u64 0, .int .u64 0] 96).step hb1)
    clear hb1
    rw [World.size_alloc] at T1
    obtain ⟨a0, a1⟩ := cells2 (T1.out.row (List.mem_cons_of_mem _ List.mem_cons_self))
    obtain ⟨c0, c1⟩ := cells2 (T1.out.row List.mem_cons_self)
    obtain ⟨f0, f1⟩ := frozen2 (T1.out.row List.mem_cons_self)
    go_wp2
    have hne : ∀ x ∈ [(w.heap.size, #[Value.int .u64 x1, .int .u64 x2], (96 : TypeId))], x.1 ≠ w.heap.size + 1 := fun x hx => by rw [List.mem_singleton.1 hx]; simp
    have T4 := (T1.out.set hne 0 (.int .u64 x1)).set hne 1 (.int .u64 x2)
    refine bodyPost_ret (results_cell_row rfl _ _ (w.heap.size + 1) 96 _ (0, 0) _ rfl (T4.row List.mem_cons_self) Try.underlying96 rfl info46) rfl ?_
    exact ⟨rfl, T4.1⟩
theorem narrow_yes (a : Nat) (h : a ≤ 1152921504606846976) (w : World) :
    Calls Try.prog 92 #[W a] w fun e w' => e = .returned (.int .i64 a) ∧ Below w.heap.size w w' := by
  rw [W_small a (by omega) (by omega)]
  have g : ¬ (1152921504606846976 < (a : Int)) := by omega
  have g2 : wrap64 (a : Int) = a := by unfold wrap64; omega
  go_enter Try.func92, Try.ntmps92
  go_wp2
  go_ret
  exact ⟨by first | rfl | rw [g2], (Below.refl _ _).alloc (Nat.le_refl _) _⟩
/-- What narrow panics with. -/
def over : Ending := .panicked [{ v := .iface 22 (.int .i64 14), recovered := false }]
theorem narrow_no (a : Nat) (h : ¬ a ≤ 1152921504606846976) (h2 : near a) (w : World) :
    Calls Try.prog 92 #[W a] w fun e w' => e = over ∧ Below w.heap.size w w' := by
  by_cases hs : (a : Int) < 18446744073709551616
  · rw [W_small a (by omega) hs]
    have g : (1152921504606846976 < (a : Int)) := by omega
    go_enter Try.func92, Try.ntmps92
    go_wp2
    exact ⟨rfl, rfl, (Below.refl _ _).alloc (Nat.le_refl _) _⟩
  · have h3 := (hi_small a (by omega) h2.2)
    have h4 : ¬ hiW a = 0 := fun h => hs (h3.1 h)
    unfold W
    generalize hiW a = x at *
    generalize loW a = y at *
    have g : (x == 0) = false := by simp [h4]
    go_enter Try.func92, Try.ntmps92
    go_wp2
    exact ⟨rfl, rfl, (Below.refl _ _).alloc (Nat.le_refl _) _⟩
end Go.Proofs.Ytffnopdpndpngaa.Pro
namespace Go.Proofs.Ytffnopdpndpngaa.Pro
open Go.RowKit

/-- What a cell holds. -/
def held (V : World) (g j : Nat) : Value := (V.cell? ⟨g, j, none⟩).getD undef
/-- Four blocks of two cells: two that are known, two that are written. -/
def D4 (w : World) (a1 a2 b1 b2 : Value) (V : World) : Prop :=
  ∃ c1 c2 d1 d2, Has w [(w.heap.size, #[a1, a2], 96), (w.heap.size + 1, #[b1, b2], 96), (w.heap.size + 1 + 1, #[c1, c2], 96), (w.heap.size + 1 + 1 + 1, #[d1, d2], 96)] V
theorem Has.perm {w V : World} {L M : List (Nat × Array Value × TypeId)} (h : Has w L V) (hM : ∀ x, x ∈ M → x ∈ L) : Has w M V := h.sub hM
theorem D4.step {w V V2 : World} {a1 a2 b1 b2 : Value} (h : D4 w a1 a2 b1 b2 V) (hb : Below V.heap.size V V2) : D4 w a1 a2 b1 b2 V2 := by
  obtain ⟨c1, c2, d1, d2, h⟩ := h
  exact ⟨c1, c2, d1, d2, h.step hb⟩
theorem D4.drew {w V : World} {a1 a2 b1 b2 : Value} (h : D4 w a1 a2 b1 b2 V) : D4 w a1 a2 b1 b2 V.drew := by
  obtain ⟨c1, c2, d1, d2, h⟩ := h
  exact ⟨c1, c2, d1, d2, h.drew⟩
/-- Both cells of one block out of four, written. -/
theorem Has.setC {w V : World} {a b c d : Array Value} {x y u v : Value} (h : Has w [(w.heap.size, a, 96), (w.heap.size + 1, b, 96), (w.heap.size + 1 + 1, #[x, y], 96), (w.heap.size + 1 + 1 + 1, d, 96)] V) :
    Has w [(w.heap.size, a, 96), (w.heap.size + 1, b, 96), (w.heap.size + 1 + 1, #[u, v], 96), (w.heap.size + 1 + 1 + 1, d, 96)] ((V.setCell ⟨w.heap.size + 1 + 1, 0, none⟩ u).setCell ⟨w.heap.size + 1 + 1, 1, none⟩ v) := by
  have h1 : Has w [(w.heap.size + 1 + 1, #[x, y], 96), (w.heap.size, a, 96), (w.heap.size + 1, b, 96), (w.heap.size + 1 + 1 + 1, d, 96)] V := h.perm (by simp)
  have hne : ∀ x ∈ [(w.heap.size, a, (96 : TypeId)), (w.heap.size + 1, b, 96), (w.heap.size + 1 + 1 + 1, d, 96)], x.1 ≠ w.heap.size + 1 + 1 := by simp; omega
  exact ((h1.set hne 0 u).set hne 1 v).perm (by simp)
theorem Has.setD {w V : World} {a b c : Array Value} {x y u v : Value} (h : Has w [(w.heap.size, a, 96), (w.heap.size + 1, b, 96), (w.heap.size + 1 + 1, c, 96), (w.heap.size + 1 + 1 + 1, #[x, y], 96)] V) :
    Has w [(w.heap.size, a, 96), (w.heap.size + 1, b, 96), (w.heap.size + 1 + 1, c, 96), (w.heap.size + 1 + 1 + 1, #[u, v], 96)] ((V.setCell ⟨w.heap.size + 1 + 1 + 1, 0, none⟩ u).setCell ⟨w.heap.size + 1 + 1 + 1, 1, none⟩ v) := by
  have h1 : Has w [(w.heap.size + 1 + 1 + 1, #[x, y], 96), (w.heap.size, a, 96), (w.heap.size + 1, b, 96), (w.heap.size + 1 + 1, c, 96)] V := h.perm (by simp)
  have hne : ∀ x ∈ [(w.heap.size, a, (96 : TypeId)), (w.heap.size + 1, b, 96), (w.heap.size + 1 + 1, c, 96)], x.1 ≠ w.heap.size + 1 + 1 + 1 := by simp; omega
  exact ((h1.set hne 0 u).set hne 1 v).perm (by simp)
theorem D4.setC {w V : World} {a1 a2 b1 b2 : Value} (u v : Value) (h : D4 w a1 a2 b1 b2 V) : D4 w a1 a2 b1 b2 ((V.setCell ⟨w.heap.size + 1 + 1, 0, none⟩ u).setCell ⟨w.heap.size + 1 + 1, 1, none⟩ v) := by
  obtain ⟨c1, c2, d1, d2, h⟩ := h
  exact ⟨u, v, d1, d2, h.setC (c := #[])⟩
theorem D4.setD {w V : World} {a1 a2 b1 b2 : Value} (u v : Value) (h : D4 w a1 a2 b1 b2 V) : D4 w a1 a2 b1 b2 ((V.setCell ⟨w.heap.size + 1 + 1 + 1, 0, none⟩ u).setCell ⟨w.heap.size + 1 + 1 + 1, 1, none⟩ v) := by
  obtain ⟨c1, c2, d1, d2, h⟩ := h
  exact ⟨c1, c2, u, v, h.setD⟩
theorem D4.all {w V : World} {a1 a2 b1 b2 : Value} (h : D4 w a1 a2 b1 b2 V) :
    V.cell? ⟨w.heap.size, 0, none⟩ = some a1 ∧ V.cell? ⟨w.heap.size, 1, none⟩ = some a2 ∧ V.cell? ⟨w.heap.size + 1, 0, none⟩ = some b1 ∧ V.cell? ⟨w.heap.size + 1, 1, none⟩ = some b2 ∧
    V.cell? ⟨w.heap.size + 1 + 1, 0, none⟩ = some (held V (w.heap.size + 1 + 1) 0) ∧ V.cell? ⟨w.heap.size + 1 + 1, 1, none⟩ = some (held V (w.heap.size + 1 + 1) 1) ∧ V.cell? ⟨w.heap.size + 1 + 1 + 1, 0, none⟩ = some (held V (w.heap.size + 1 + 1 + 1) 0) ∧ V.cell? ⟨w.heap.size + 1 + 1 + 1, 1, none⟩ = some (held V (w.heap.size + 1 + 1 + 1) 1) ∧
    V.frozen? ⟨w.heap.size + 1 + 1, 0, none⟩ = false ∧ V.frozen? ⟨w.heap.size + 1 + 1, 1, none⟩ = false ∧ V.frozen? ⟨w.heap.size + 1 + 1 + 1, 0, none⟩ = false ∧ V.frozen? ⟨w.heap.size + 1 + 1 + 1, 1, none⟩ = false ∧ D4 w a1 a2 b1 b2 V := by
  have h0 := h
  obtain ⟨c1, c2, d1, d2, h⟩ := h
  have ha := cells2 (h.row (b := w.heap.size) (cs := #[a1, a2]) (t := 96) (by simp))
  have hb := cells2 (h.row (b := w.heap.size + 1) (cs := #[b1, b2]) (t := 96) (by simp))
  have rc := h.row (b := w.heap.size + 1 + 1) (cs := #[c1, c2]) (t := 96) (by simp)
  have rd := h.row (b := w.heap.size + 1 + 1 + 1) (cs := #[d1, d2]) (t := 96) (by simp)
  have hc := cells2 rc
  have hd := cells2 rd
  refine ⟨ha.1, ha.2, hb.1, hb.2, ?_, ?_, ?_, ?_, (frozen2 rc).1, (frozen2 rc).2, (frozen2 rd).1, (frozen2 rd).2, h0⟩
  · unfold held; rw [hc.1]; rfl
  · unfold held; rw [hc.2]; rfl
  · unfold held; rw [hd.1]; rfl
  · unfold held; rw [hd.2]; rfl
theorem D4.of {w V : World} {a1 a2 b1 b2 : Value} (h : V.cell? ⟨w.heap.size, 0, none⟩ = some a1 ∧ V.cell? ⟨w.heap.size, 1, none⟩ = some a2 ∧ V.cell? ⟨w.heap.size + 1, 0, none⟩ = some b1 ∧ V.cell? ⟨w.heap.size + 1, 1, none⟩ = some b2 ∧
    V.cell? ⟨w.heap.size + 1 + 1, 0, none⟩ = some (held V (w.heap.size + 1 + 1) 0) ∧ V.cell? ⟨w.heap.size + 1 + 1, 1, none⟩ = some (held V (w.heap.size + 1 + 1) 1) ∧ V.cell? ⟨w.heap.size + 1 + 1 + 1, 0, none⟩ = some (held V (w.heap.size + 1 + 1 + 1) 0) ∧ V.cell? ⟨w.heap.size + 1 + 1 + 1, 1, none⟩ = some (held V (w.heap.size + 1 + 1 + 1) 1) ∧
    V.frozen? ⟨w.heap.size + 1 + 1, 0, none⟩ = false ∧ V.frozen? ⟨w.heap.size + 1 + 1, 1, none⟩ = false ∧ V.frozen? ⟨w.heap.size + 1 + 1 + 1, 0, none⟩ = false ∧ V.frozen? ⟨w.heap.size + 1 + 1 + 1, 1, none⟩ = false ∧ D4 w a1 a2 b1 b2 V) : D4 w a1 a2 b1 b2 V := h.2.2.2.2.2.2.2.2.2.2.2.2
/-- Four blocks whose cells are all known. -/
def E4 (w : World) (a1 a2 b1 b2 c1 c2 d1 d2 : Value) (V : World) : Prop :=
  Has w [(w.heap.size, #[a1, a2], 96), (w.heap.size + 1, #[b1, b2], 96), (w.heap.size + 1 + 1, #[c1, c2], 96), (w.heap.size + 1 + 1 + 1, #[d1, d2], 96)] V
theorem D4.endCD {w V : World} {a1 a2 b1 b2 : Value} (u v x y : Value) (h : D4 w a1 a2 b1 b2 V) :
    E4 w a1 a2 b1 b2 u v x y ((((V.setCell ⟨w.heap.size + 1 + 1, 0, none⟩ u).setCell ⟨w.heap.size + 1 + 1, 1, none⟩ v).setCell ⟨w.heap.size + 1 + 1 + 1, 0, none⟩ x).setCell ⟨w.heap.size + 1 + 1 + 1, 1, none⟩ y) := by
  obtain ⟨c1, c2, d1, d2, h⟩ := h
  exact (h.setC (c := #[])).setD
theorem D4.endDC {w V : World} {a1 a2 b1 b2 : Value} (u v x y : Value) (h : D4 w a1 a2 b1 b2 V) :
    E4 w a1 a2 b1 b2 u v x y ((((V.setCell ⟨w.heap.size + 1 + 1 + 1, 0, none⟩ x).setCell ⟨w.heap.size + 1 + 1 + 1, 1, none⟩ y).setCell ⟨w.heap.size + 1 + 1, 0, none⟩ u).setCell ⟨w.heap.size + 1 + 1, 1, none⟩ v) := by
  obtain ⟨c1, c2, d1, d2, h⟩ := h
  exact (h.setD).setC (c := #[])
theorem E4.d4 {w V : World} {a1 a2 b1 b2 c1 c2 d1 d2 : Value} (h : E4 w a1 a2 b1 b2 c1 c2 d1 d2 V) : D4 w a1 a2 b1 b2 V := ⟨_, _, _, _, h⟩
theorem E4.cells {w V : World} {a1 a2 b1 b2 c1 c2 d1 d2 : Value} (h : E4 w a1 a2 b1 b2 c1 c2 d1 d2 V) :
    (V.cell? ⟨w.heap.size, 0, none⟩ = some a1 ∧ V.cell? ⟨w.heap.size, 1, none⟩ = some a2) ∧ (V.cell? ⟨w.heap.size + 1, 0, none⟩ = some b1 ∧ V.cell? ⟨w.heap.size + 1, 1, none⟩ = some b2) ∧
    (V.cell? ⟨w.heap.size + 1 + 1, 0, none⟩ = some c1 ∧ V.cell? ⟨w.heap.size + 1 + 1, 1, none⟩ = some c2) ∧ (V.cell? ⟨w.heap.size + 1 + 1 + 1, 0, none⟩ = some d1 ∧ V.cell? ⟨w.heap.size + 1 + 1 + 1, 1, none⟩ = some d2) ∧
    (V.frozen? ⟨w.heap.size + 1 + 1, 0, none⟩ = false ∧ V.frozen? ⟨w.heap.size + 1 + 1, 1, none⟩ = false) ∧ (V.frozen? ⟨w.heap.size + 1 + 1 + 1, 0, none⟩ = false ∧ V.frozen? ⟨w.heap.size + 1 + 1 + 1, 1, none⟩ = false) :=
  have rc := h.row (b := w.heap.size + 1 + 1) (cs := #[c1, c2]) (t := 96) (by simp)
  have rd := h.row (b := w.heap.size + 1 + 1 + 1) (cs := #[d1, d2]) (t := 96) (by simp)
  ⟨cells2 (h.row (b := w.heap.size) (cs := #[a1, a2]) (t := 96) (by simp)), cells2 (h.row (b := w.heap.size + 1) (cs := #[b1, b2]) (t := 96) (by simp)), cells2 rc, cells2 rd, frozen2 rc, frozen2 rd⟩
theorem E4.step {w V V2 : World} {a1 a2 b1 b2 c1 c2 d1 d2 : Value} (h : E4 w a1 a2 b1 b2 c1 c2 d1 d2 V) (hb : Below V.heap.size V V2) : E4 w a1 a2 b1 b2 c1 c2 d1 d2 V2 := Has.step h hb
theorem E4.drew {w V : World} {a1 a2 b1 b2 c1 c2 d1 d2 : Value} (h : E4 w a1 a2 b1 b2 c1 c2 d1 d2 V) : E4 w a1 a2 b1 b2 c1 c2 d1 d2 V.drew := Has.drew h
theorem E4.setC {w V : World} {a1 a2 b1 b2 c1 c2 d1 d2 : Value} (u v : Value) (h : E4 w a1 a2 b1 b2 c1 c2 d1 d2 V) :
    E4 w a1 a2 b1 b2 u v d1 d2 ((V.setCell ⟨w.heap.size + 1 + 1, 0, none⟩ u).setCell ⟨w.heap.size + 1 + 1, 1, none⟩ v) := Has.setC (c := #[]) h
theorem E4.setD {w V : World} {a1 a2 b1 b2 c1 c2 d1 d2 : Value} (u v : Value) (h : E4 w a1 a2 b1 b2 c1 c2 d1 d2 V) :
    E4 w a1 a2 b1 b2 c1 c2 u v ((V.setCell ⟨w.heap.size + 1 + 1 + 1, 0, none⟩ u).setCell ⟨w.heap.size + 1 + 1 + 1, 1, none⟩ v) := Has.setD h
theorem E4.undrew {w V : World} {a1 a2 b1 b2 c1 c2 d1 d2 : Value} (h : E4 w a1 a2 b1 b2 c1 c2 d1 d2 V.drew) : E4 w a1 a2 b1 b2 c1 c2 d1 d2 V := ⟨⟨h.1.os, h.1.tape, h.1.output, h.1.size, h.1.block⟩, h.2⟩
theorem E4.start (w : World) (a1 a2 b1 b2 c1 c2 d1 d2 : Value) : E4 w a1 a2 b1 b2 c1 c2 d1 d2 ((((w.alloc (.cells #[a1, a2] 96)).alloc (.cells #[b1, b2] 96)).alloc (.cells #[c1, c2] 96)).alloc (.cells #[d1, d2] 96)) := by
  have h := ((((Has.start w).alloc #[a1, a2] 96).alloc #[b1, b2] 96).alloc #[c1, c2] 96).alloc #[d1, d2] 96
  simp only [World.size_alloc] at h
  exact h.perm (by simp)
theorem E4.rowC {w V : World} {a1 a2 b1 b2 c1 c2 d1 d2 : Value} (h : E4 w a1 a2 b1 b2 c1 c2 d1 d2 V) : V.heap[w.heap.size + 1 + 1]? = some (.cells #[c1, c2] 96 (0, 0)) := h.row (by simp)
theorem E4.rowD {w V : World} {a1 a2 b1 b2 c1 c2 d1 d2 : Value} (h : E4 w a1 a2 b1 b2 c1 c2 d1 d2 V) : V.heap[w.heap.size + 1 + 1 + 1]? = some (.cells #[d1, d2] 96 (0, 0)) := h.row (by simp)
/-- The end of a function whose two results lie in blocks. -/
theorem res_two {fn : Func} {p q : Tmp} {ty : TypeId} {P : Program} (h : fn.results = #[.cell p ty, .cell q ty]) (tmps : Array Value) (w : World) (g k : Nat) (t : TypeId) (cs ds : Array Value) (d : TypeDesc)
    (hp : tmps.getD p undef = .pointer (some ⟨g, 0, none⟩)) (hq : tmps.getD q undef = .pointer (some ⟨k, 0, none⟩)) (hg : w.heap[g]? = some (.cells cs t (0, 0))) (hk : w.heap[k]? = some (.cells ds t (0, 0)))
    (hu : P.underlying ty = some d) (hd : (match d with | .struct _ | .array _ _ => true | _ => false) = true) (hi : (P.info? ty).map (·.size) = some cs.size) (hi2 : (P.info? ty).map (·.size) = some ds.size) :
    (results fn tmps).run P w = .ok (.tuple #[.agg cs, .agg ds]) w := by
  have hl := run_loadVar_row (P := P) w g t ty cs (0, 0) d hg hu (by cases d <;> simp_all) hi
  have hl2 := run_loadVar_row (P := P) w k t ty ds (0, 0) d hk hu (by cases d <;> simp_all) hi2
  rw [Array.getD_eq_getD_getElem?] at hp hq
  simp only [results, h]
  simp [Sem.run_bind, hp, hq, asAddr, hl, hl2, Result.andThen, Sem.run_pure]
set_option maxHeartbeats 2000000 in
set_option maxRecDepth 100000 in
/-- Both numbers fit in a word. -/
theorem divide_word (a b : Nat) (ha : a < 18446744073709551616) (hb : b < 18446744073709551616) (h0 : 0 < b) (w : World) :
    Calls Try.prog 91 #[W a, W b] w fun e w' => e = .returned (.tuple #[W (a / b : Nat), W (a % b : Nat)]) ∧ Below w.heap.size w w' := by
  have hq : a / b ≤ a := Nat.div_le_self _ _
  have hr : a % b < b := Nat.mod_lt _ h0
  have z1 : ((a / b : Nat) : Int) < 18446744073709551616 := by omega
  have z2 : ((a % b : Nat) : Int) < 18446744073709551616 := by omega
  rw [W_small a (by omega) (by omega), W_small b (by omega) (by omega), W_small (a / b : Nat) (Int.natCast_nonneg _) z1, W_small (a % b : Nat) (Int.natCast_nonneg _) z2]
  clear z1 z2
  have g0 : ¬ ((b : Int) = 0) := by omega
  have g1 : ¬ (b = 0) := by omega
  go_enter Try.func91, Try.ntmps91
  go_wp2
  go_region
  go_wp2
  have T := (E4.start w (.int .u64 0) (.int .u64 a) (.int .u64 0) (.int .u64 b) (.int .u64 0) (.int .u64 (IntKind.u64.wrap ((a : Int) / b))) (.int .u64 0) (.int .u64 ((a : Int) % b))).drew
  refine bodyPost_ret (res_two rfl _ _ (w.heap.size + 1 + 1) (w.heap.size + 1 + 1 + 1) 96 _ _ _ rfl rfl T.rowC T.rowD Try.underlying96 rfl info46 info46) rfl ?_
  refine ⟨?_, T.1⟩
  have e : IntKind.u64.wrap ((a : Int) / b) = ((a / b : Nat) : Int) := by
    rw [← Int.natCast_ediv]
    generalize a / b = q at *
    exact IntWalk.u64_in _ (by omega)
  rw [e]; rfl

set_option maxHeartbeats 2000000 in
set_option maxRecDepth 100000 in
/-- The first is less than the second. -/
theorem divide_less1 (a1 a2 b1 b2 : Int) (g : (a1 == 0) = false) (LT : Hid (∀ w : World, Calls Try.prog 106 #[.agg #[.int .u64 a1, .int .u64 a2], .agg #[.int .u64 b1, .int .u64 b2]] w fun e w' => e = .returned (.bool true) ∧ Below w.heap.size w w')) (w : World) :
    Calls Try.prog 91 #[.agg #[.int .u64 a1, .int .u64 a2], .agg #[.int .u64 b1, .int .u64 b2]] w fun e w' => e = .returned (.tuple #[.agg #[.int .u64 0, .int .u64 0], .agg #[.int .u64 a1, .int .u64 a2]]) ∧ Below w.heap.size w w' := by
  go_enter Try.func91, Try.ntmps91
  go_wp2_with fail
  refine (LT.out _).mono ?_
  rintro e w1 ⟨rfl, hb1⟩
  have T1 := Lib.hid ((E4.start w (.int .u64 a1) (.int .u64 a2) (.int .u64 b1) (.int .u64 b2) (.int .u64 0) (.int .u64 0) (.int .u64 0) (.int .u64 0)).step hb1)
  clear hb1
  obtain ⟨⟨_, _⟩, ⟨_, _⟩, ⟨_, _⟩, ⟨_, _⟩, ⟨_, _⟩, ⟨_, _⟩⟩ := T1.out.cells
  go_wp2
  go_region
  go_wp2
  have T := (((T1.out.setC (.int .u64 0) (.int .u64 0)).setD (.int .u64 a1) (.int .u64 a2)).drew)
  refine bodyPost_ret (res_two rfl _ _ (w.heap.size + 1 + 1) (w.heap.size + 1 + 1 + 1) 96 _ _ _ rfl rfl T.rowC T.rowD Try.underlying96 rfl info46 info46) rfl ?_
  exact ⟨rfl, T.1⟩
set_option maxHeartbeats 2000000 in
set_option maxRecDepth 100000 in
theorem divide_less2 (a2 b1 b2 : Int) (g : (b1 == 0) = false) (LT : Hid (∀ w : World, Calls Try.prog 106 #[.agg #[.int .u64 0, .int .u64 a2], .agg #[.int .u64 b1, .int .u64 b2]] w fun e w' => e = .returned (.bool true) ∧ Below w.heap.size w w')) (w : World) :
    Calls Try.prog 91 #[.agg #[.int .u64 0, .int .u64 a2], .agg #[.int .u64 b1, .int .u64 b2]] w fun e w' => e = .returned (.tuple #[.agg #[.int .u64 0, .int .u64 0], .agg #[.int .u64 0, .int .u64 a2]]) ∧ Below w.heap.size w w' := by
  go_enter Try.func91, Try.ntmps91
  go_wp2_with fail
  refine (LT.out _).mono ?_
  rintro e w1 ⟨rfl, hb1⟩
  have T1 := Lib.hid ((E4.start w (.int .u64 0) (.int .u64 a2) (.int .u64 b1) (.int .u64 b2) (.int .u64 0) (.int .u64 0) (.int .u64 0) (.int .u64 0)).step hb1)
  clear hb1
  obtain ⟨⟨_, _⟩, ⟨_, _⟩, ⟨_, _⟩, ⟨_, _⟩, ⟨_, _⟩, ⟨_, _⟩⟩ := T1.out.cells
  go_wp2
  go_region
  go_wp2
  have T := (((T1.out.setC (.int .u64 0) (.int .u64 0)).setD (.int .u64 0) (.int .u64 a2)).drew)
  refine bodyPost_ret (res_two rfl _ _ (w.heap.size + 1 + 1) (w.heap.size + 1 + 1 + 1) 96 _ _ _ rfl rfl T.rowC T.rowD Try.underlying96 rfl info46 info46) rfl ?_
  exact ⟨rfl, T.1⟩
end Go.Proofs.Ytffnopdpndpngaa.Pro
namespace Go.Proofs.Ytffnopdpndpngaa.Pro
open Go.RowKit
theorem E4.step2 {w V V2 : World} {a1 a2 b1 b2 c1 c2 d1 d2 : Value} (hb : Below V.heap.size V V2) (h : E4 w a1 a2 b1 b2 c1 c2 d1 d2 V) : E4 w a1 a2 b1 b2 c1 c2 d1 d2 V2 := h.step hb
theorem D4.step2 {w V V2 : World} {a1 a2 b1 b2 : Value} (hb : Below V.heap.size V V2) (h : D4 w a1 a2 b1 b2 V) : D4 w a1 a2 b1 b2 V2 := h.step hb
set_option maxHeartbeats 4000000 in
set_option maxRecDepth 100000 in
theorem divide_stepA (a1 a2 b1 b2 c1 c2 q1 q2 r1 r2 s1 s2 : Int) (g : (a1 == 0) = false)
    (LT : Hid (∀ w : World, Calls Try.prog 106 #[.agg #[.int .u64 a1, .int .u64 a2], .agg #[.int .u64 b1, .int .u64 b2]] w fun e w' => e = .returned (.bool false) ∧ Below w.heap.size w w'))
    (PL : Hid (∀ w : World, Calls Try.prog 107 #[.agg #[.int .u64 b1, .int .u64 b2], .agg #[.int .u64 b1, .int .u64 b2]] w fun e w' => e = .returned (.agg #[.int .u64 c1, .int .u64 c2]) ∧ Below w.heap.size w w'))
    (DV : Hid (∀ w : World, Calls Try.prog 91 #[.agg #[.int .u64 a1, .int .u64 a2], .agg #[.int .u64 c1, .int .u64 c2]] w fun e w' => e = .returned (.tuple #[.agg #[.int .u64 q1, .int .u64 q2], .agg #[.int .u64 r1, .int .u64 r2]]) ∧ Below w.heap.size w w'))
    (PQ : Hid (∀ w : World, Calls Try.prog 107 #[.agg #[.int .u64 q1, .int .u64 q2], .agg #[.int .u64 q1, .int .u64 q2]] w fun e w' => e = .returned (.agg #[.int .u64 s1, .int .u64 s2]) ∧ Below w.heap.size w w'))
    (LR : Hid (∀ w : World, Calls Try.prog 106 #[.agg #[.int .u64 r1, .int .u64 r2], .agg #[.int .u64 b1, .int .u64 b2]] w fun e w' => e = .returned (.bool true) ∧ Below w.heap.size w w')) (w : World) :
    Calls Try.prog 91 #[.agg #[.int .u64 a1, .int .u64 a2], .agg #[.int .u64 b1, .int .u64 b2]] w fun e w' => e = .returned (.tuple #[.agg #[.int .u64 s1, .int .u64 s2], .agg #[.int .u64 r1, .int .u64 r2]]) ∧ Below w.heap.size w w' := by
  go_enter Try.func91, Try.ntmps91
  go_wp2_with fail
  refine (LT.out _).mono ?_
  rintro e w1 ⟨rfl, hb1⟩
  have T1 := ((E4.start w (.int .u64 a1) (.int .u64 a2) (.int .u64 b1) (.int .u64 b2) (.int .u64 0) (.int .u64 0) (.int .u64 0) (.int .u64 0)).step hb1).d4
  clear hb1 LT
  have h0 := T1.all
  clear T1
  go_wp2
  go_region_held3 (fun V => V.cell? ⟨w.heap.size, 0, none⟩ = some (.int .u64 a1) ∧ V.cell? ⟨w.heap.size, 1, none⟩ = some (.int .u64 a2) ∧ V.cell? ⟨w.heap.size + 1, 0, none⟩ = some (.int .u64 b1) ∧ V.cell? ⟨w.heap.size + 1, 1, none⟩ = some (.int .u64 b2) ∧ V.cell? ⟨w.heap.size + 1 + 1, 0, none⟩ = some (held V (w.heap.size + 1 + 1) 0) ∧ V.cell? ⟨w.heap.size + 1 + 1, 1, none⟩ = some (held V (w.heap.size + 1 + 1) 1) ∧ V.cell? ⟨w.heap.size + 1 + 1 + 1, 0, none⟩ = some (held V (w.heap.size + 1 + 1 + 1) 0) ∧ V.cell? ⟨w.heap.size + 1 + 1 + 1, 1, none⟩ = some (held V (w.heap.size + 1 + 1 + 1) 1) ∧ V.frozen? ⟨w.heap.size + 1 + 1, 0, none⟩ = false ∧ V.frozen? ⟨w.heap.size + 1 + 1, 1, none⟩ = false ∧ V.frozen? ⟨w.heap.size + 1 + 1 + 1, 0, none⟩ = false ∧ V.frozen? ⟨w.heap.size + 1 + 1 + 1, 1, none⟩ = false ∧ D4 w (.int .u64 a1) (.int .u64 a2) (.int .u64 b1) (.int .u64 b2) V)
      (with_reducible first | exact (D4.drew (D4.of (by assumption))).all | exact (D4.step2 (by assumption) (D4.of (by assumption))).all | exact (D4.setC _ _ (D4.of (by assumption))).all | exact (D4.setD _ _ (D4.of (by assumption))).all)
      (first | (go_at_call 107; refine (PL.out _).mono ?_; rintro e w' ⟨rfl, hb⟩) | (go_at_call 91; refine (DV.out _).mono ?_; rintro e w' ⟨rfl, hb⟩; have HZ := Lib.hid (D4.step (D4.of (by assumption)) hb)))
  have T2 := HZ.out.endCD (.int .u64 q1) (.int .u64 q2) (.int .u64 r1) (.int .u64 r2)
  clear HZ PL DV h0
  obtain ⟨w2, hw2⟩ : ∃ w2, w2 = ((((w'.setCell ⟨w.heap.size + 1 + 1, 0, none⟩ (.int .u64 q1)).setCell ⟨w.heap.size + 1 + 1, 1, none⟩ (.int .u64 q2)).setCell ⟨w.heap.size + 1 + 1 + 1, 0, none⟩ (.int .u64 r1)).setCell ⟨w.heap.size + 1 + 1 + 1, 1, none⟩ (.int .u64 r2)) := ⟨_, rfl⟩
  rw [← hw2] at T2 ⊢
  clear hw2
  obtain ⟨⟨x1, x2⟩, ⟨x3, x4⟩, ⟨x5, x6⟩, ⟨x7, x8⟩, ⟨x9, x10⟩, ⟨x11, x12⟩⟩ := T2.cells
  have H2 := Lib.hid T2
  clear T2
  go_wp2_with fail
  refine (PQ.out _).mono ?_
  rintro e w3 ⟨rfl, hb3⟩
  have T3 := H2.out.step hb3
  clear hb3 H2 PQ x1 x2 x3 x4 x5 x6 x7 x8 x9 x10 x11 x12
  obtain ⟨⟨x1, x2⟩, ⟨x3, x4⟩, ⟨x5, x6⟩, ⟨x7, x8⟩, ⟨x9, x10⟩, ⟨x11, x12⟩⟩ := T3.cells
  have H3 := Lib.hid (T3.setC (.int .u64 s1) (.int .u64 s2))
  clear T3
  go_wp2_with fail
  refine (LR.out _).mono ?_
  rintro e w4 ⟨rfl, hb4⟩
  have T4 := H3.out.step hb4
  clear hb4 H3 LR x1 x2 x3 x4 x5 x6 x7 x8 x9 x10 x11 x12
  obtain ⟨⟨x1, x2⟩, ⟨x3, x4⟩, ⟨x5, x6⟩, ⟨x7, x8⟩, ⟨x9, x10⟩, ⟨x11, x12⟩⟩ := T4.cells
  have H4 := Lib.hid T4
  clear T4
  go_wp2
  go_region
  go_wp2
  have T := ((H4.out.setC (.int .u64 s1) (.int .u64 s2)).setD (.int .u64 r1) (.int .u64 r2)).drew
  refine bodyPost_ret (res_two rfl _ _ (w.heap.size + 1 + 1) (w.heap.size + 1 + 1 + 1) 96 _ _ _ rfl rfl T.rowC T.rowD Try.underlying96 rfl info46 info46) rfl ?_
  exact ⟨rfl, T.1⟩

end Go.Proofs.Ytffnopdpndpngaa.Pro
namespace Go.Proofs.Ytffnopdpndpngaa.Pro
open Go.RowKit

set_option maxRecDepth 100000 in
theorem make_catch (p : Addr) (x : Int) (w : World) (hc : w.cell? p = some (.int .i64 x)) (hz : w.frozen? p = false) :
    CallsD Try.prog 87 #[.pointer (some p)] (.panicking [{ v := .iface 22 (.int .i64 14), recovered := false }]) w fun e u' w' =>
      e = .returned (.tuple #[]) ∧ u' = .panicking [{ v := .iface 22 (.int .i64 14), recovered := true }] ∧ w' = w.setCell p (.int .i64 14) := by
  refine callsD_of_wpS Try.func87 rfl fun c₀ cs hu => ?_
  apply wpS_seq
  apply wpS_region
  simp [wpOpsS, go_sem, recoverD, hu, Try.ntmps87, Exit.thenS]
  refine wpS_cond (t := true) (by simp [Act.eval, Array.replicate]) ?_
  simp only [if_true]
  apply wpS_region
  simp [wpOpsS, go_sem, hc, hz, bodyPostS, results, Try.results87]
set_option maxRecDepth 100000 in
theorem make_idle (p : Addr) (w : World) :
    CallsD Try.prog 87 #[.pointer (some p)] .returning w fun e u' w' => e = .returned (.tuple #[]) ∧ u' = .returning ∧ w' = w := by
  refine callsD_of_wpS Try.func87 rfl fun c₀ cs hu => ?_
  apply wpS_seq
  apply wpS_region
  simp [wpOpsS, go_sem, recoverD, hu, Try.ntmps87, Exit.thenS]
  refine wpS_cond (t := false) (by simp [Act.eval, Array.replicate]) ?_
  simp only [Bool.false_eq_true, if_false]
  refine wpS_of_wp (wp_skip ?_)
  cases c₀
  simp_all [bodyPostS, results, Try.results87]


set_option maxRecDepth 100000 in
theorem mul_catch (p : Addr) (x : Int) (w : World) (hc : w.cell? p = some (.int .i64 x)) (hz : w.frozen? p = false) :
    CallsD Try.prog 71 #[.pointer (some p)] (.panicking [{ v := .iface 22 (.int .i64 14), recovered := false }]) w fun e u' w' =>
      e = .returned (.tuple #[]) ∧ u' = .panicking [{ v := .iface 22 (.int .i64 14), recovered := true }] ∧ w' = w.setCell p (.int .i64 14) := by
  refine callsD_of_wpS Try.func71 rfl fun c₀ cs hu => ?_
  apply wpS_seq
  apply wpS_region
  simp [wpOpsS, go_sem, recoverD, hu, Try.ntmps71, Exit.thenS]
  refine wpS_cond (t := true) (by simp [Act.eval, Array.replicate]) ?_
  simp only [if_true]
  apply wpS_region
  simp [wpOpsS, go_sem, hc, hz, bodyPostS, results, Try.results71]
set_option maxRecDepth 100000 in
theorem mul_idle (p : Addr) (w : World) :
    CallsD Try.prog 71 #[.pointer (some p)] .returning w fun e u' w' => e = .returned (.tuple #[]) ∧ u' = .returning ∧ w' = w := by
  refine callsD_of_wpS Try.func71 rfl fun c₀ cs hu => ?_
  apply wpS_seq
  apply wpS_region
  simp [wpOpsS, go_sem, recoverD, hu, Try.ntmps71, Exit.thenS]
  refine wpS_cond (t := false) (by simp [Act.eval, Array.replicate]) ?_
  simp only [Bool.false_eq_true, if_false]
  refine wpS_of_wp (wp_skip ?_)
  cases c₀
  simp_all [bodyPostS, results, Try.results71]
end Go.Proofs.Ytffnopdpndpngaa.Pro
