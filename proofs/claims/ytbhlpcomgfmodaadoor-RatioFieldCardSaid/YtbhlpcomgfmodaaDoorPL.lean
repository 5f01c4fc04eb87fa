/- The program's Make. -/
import Derived.Test.YtbhlpcomgfmodaaDoorPJ
import Derived.Test.YtbhlpcomgfmodaaDoorPK
set_option linter.unusedVariables false
set_option linter.unusedSimpArgs false
namespace Go.Proofs.YtbhlpcomgfmodaaDoor.Pro
open Go.RowKit

theorem load24 {V : World} {k : Nat} {x : Int} (hk : V.heap[k]? = some (.cells #[.int .i64 x] 24 (0, 0))) : (loadVar 24 ⟨k, 0, none⟩).run Tryd.prog V = .ok (.int .i64 x) V := by
  have h := cells1 hk
  simp [go_sem, h]
/-- A fraction and an error, each in a block of its own. -/
theorem res_pair {fn : Func} {p q : Tmp} (h : fn.results = #[.cell p 23, .cell q 24]) (tmps : Array Value) (V : World) (g k : Nat) (n d x : Int)
    (hp : tmps.getD p undef = .pointer (some ⟨g, 0, none⟩)) (hq : tmps.getD q undef = .pointer (some ⟨k, 0, none⟩)) (hg : V.heap[g]? = some (.cells #[.int .i64 n, .int .i64 d] 23 (0, 0))) (hk : V.heap[k]? = some (.cells #[.int .i64 x] 24 (0, 0))) :
    (results fn tmps).run Tryd.prog V = .ok (.tuple #[.agg #[.int .i64 n, .int .i64 d], .int .i64 x]) V := by
  have hl := run_loadVar_row (P := Tryd.prog) V g 23 23 _ (0, 0) _ hg Tryd.underlying23 rfl info23
  have hl2 := load24 hk
  rw [Array.getD_eq_getD_getElem?] at hp hq
  simp only [results, h]
  simp [Sem.run_bind, hp, hq, asAddr, hl, hl2, Result.andThen, Sem.run_pure]

set_option maxHeartbeats 2000000 in
set_option maxRecDepth 100000 in
theorem make_zero (n : Int) (w : World) :
    Calls Tryd.prog 11 #[.int .i64 n, .int .i64 0] w fun e w' => e = .returned (.tuple #[.agg #[.int .i64 0, .int .i64 0], .int .i64 26]) ∧ Below w.heap.size w w' := by
  have hmf : ∀ (fn : Fn) (first cap : Array Value) (w : World), (Instr.makeFunc fn first cap).run Tryd.prog w = .ok (.func fn first cap) w := fun _ _ _ _ => rfl
  go_enter_defers Tryd.func11, Tryd.ntmps11
  go_wp2
  refine leaves_cons (f := 34) (args := #[.pointer (some ⟨w.heap.size + 1, 0, none⟩)]) (by simp) (by simp [go_sem]) ?_
  refine (make_idle ⟨w.heap.size + 1, 0, none⟩ _).mono ?_
  rintro e u' w'' ⟨rfl, rfl, rfl⟩
  exact ⟨_, res_pair rfl _ _ w.heap.size (w.heap.size + 1) 0 0 26 rfl rfl (heap_alloc2_old w _ _) (top2 w _ _), rfl, low2 w _ _⟩
/-- The result's two blocks. -/
def M2 (w : World) (n d x : Int) (V : World) : Prop := Has w [(w.heap.size, #[.int .i64 n, .int .i64 d], 23), (w.heap.size + 1, #[.int .i64 x], 24)] V
theorem M2.start (w : World) : M2 w 0 0 0 ((w.alloc (.cells #[.int .i64 0, .int .i64 0] 23)).alloc (.cells #[.int .i64 0] 24)) := by
  have h := (((Has.start w).alloc #[.int .i64 0, .int .i64 0] 23).alloc #[.int .i64 0] 24)
  simp only [World.size_alloc] at h
  exact h.sub (by simp)
theorem M2.step {w V V2 : World} {n d x : Int} (h : M2 w n d x V) (hb : Below V.heap.size V V2) : M2 w n d x V2 := Has.step h hb
theorem M2.g {w V : World} {n d x : Int} (h : M2 w n d x V) : V.heap[w.heap.size]? = some (.cells #[.int .i64 n, .int .i64 d] 23 (0, 0)) := h.row (by simp)
theorem M2.k {w V : World} {n d x : Int} (h : M2 w n d x V) : V.heap[w.heap.size + 1]? = some (.cells #[.int .i64 x] 24 (0, 0)) := h.row (by simp)
theorem M2.err {w V : World} {n d x : Int} (y : Int) (h : M2 w n d x V) : M2 w n d y (V.setCell ⟨w.heap.size + 1, 0, none⟩ (.int .i64 y)) := by
  have h1 : Has w [(w.heap.size + 1, #[.int .i64 x], 24), (w.heap.size, #[.int .i64 n, .int .i64 d], 23)] V := Has.sub h (by simp)
  exact (h1.set (by simp) 0 (.int .i64 y)).sub (by simp)
theorem M2.val {w V : World} {n d x : Int} (a b : Int) (h : M2 w n d x V) : M2 w a b x ((V.setCell ⟨w.heap.size, 0, none⟩ (.int .i64 a)).setCell ⟨w.heap.size, 1, none⟩ (.int .i64 b)) := by
  exact (Has.set (Has.set h (by simp) 0 (.int .i64 a)) (by simp) 1 (.int .i64 b)).sub (by simp)
set_option maxHeartbeats 2000000 in
set_option maxRecDepth 100000 in
theorem make_any (n d : Int) (i1 : inI n) (i2 : inI d) (h0 : d ≠ 0) (w : World) :
    Calls Tryd.prog 11 #[.int .i64 n, .int .i64 d] w fun e w' => e = .returned (Rat.makeOut n d) ∧ Below w.heap.size w w' := by
  have A := Lib.hid fun w => widen_any n i1 w
  have B := Lib.hid fun w => widen_any d i2 w
  have R := Lib.hid fun w => reduced_any n d (by unfold far; unfold inI at i1; omega) (by unfold far; unfold inI at i2; omega) h0 w
  obtain ⟨x1, x2, hx⟩ := W_shape n
  obtain ⟨y1, y2, hy⟩ := W_shape d
  rw [hx] at A R
  rw [hy] at B R
  clear hx hy
  have z2 : ¬ (d == 0) = true := by simp [h0]
  have hmf : ∀ (fn : Fn) (first cap : Array Value) (w : World), (Instr.makeFunc fn first cap).run Tryd.prog w = .ok (.func fn first cap) w := fun _ _ _ _ => rfl
  rcases redV_pair n d h0 with ⟨a, b, h1, h2⟩ | ⟨h1, h2⟩
  · rw [h1] at R
    rw [h2]
    clear h1 h2 i1 i2
    go_enter_defers Tryd.func11, Tryd.ntmps11
    go_wp2_with fail
    refine (A.out _).mono ?_
    rintro e w1 ⟨rfl, hb1⟩
    have T1 := Lib.hid ((M2.start w).step hb1)
    clear hb1 A
    go_wp2_with fail
    refine (B.out _).mono ?_
    rintro e w2 ⟨rfl, hb2⟩
    have T2 := Lib.hid (T1.out.step hb2)
    clear hb2 T1 B
    go_wp2_with fail
    refine (R.out _).mono ?_
    rintro e w3 ⟨rfl, hb3⟩
    have T3 := Lib.hid (T2.out.step hb3)
    clear hb3 T2 R
    obtain ⟨c0, c1⟩ := cells2 T3.out.g
    obtain ⟨f0, f1⟩ := frozen2 T3.out.g
    have k0 := cells1 T3.out.k
    obtain ⟨f2, _⟩ := frozen2 T3.out.k
    go_wp2
    refine leaves_cons (f := 34) (args := #[.pointer (some ⟨w.heap.size + 1, 0, none⟩)]) (by simp) (by simp [go_sem]) ?_
    refine (make_idle ⟨w.heap.size + 1, 0, none⟩ _).mono ?_
    rintro e u' w'' ⟨rfl, rfl, rfl⟩
    have T4 := (T3.out.val a b).err 0
    exact ⟨_, res_pair rfl _ _ w.heap.size (w.heap.size + 1) a b 0 rfl rfl T4.g T4.k, rfl, T4.1⟩
  · rw [h1] at R
    rw [h2]
    unfold over at R
    clear h1 h2 i1 i2
    go_enter_defers Tryd.func11, Tryd.ntmps11
    go_wp2_with fail
    refine (A.out _).mono ?_
    rintro e w1 ⟨rfl, hb1⟩
    have T1 := Lib.hid ((M2.start w).step hb1)
    clear hb1 A
    go_wp2_with fail
    refine (B.out _).mono ?_
    rintro e w2 ⟨rfl, hb2⟩
    have T2 := Lib.hid (T1.out.step hb2)
    clear hb2 T1 B
    go_wp2_with fail
    refine (R.out _).mono ?_
    rintro e w3 ⟨rfl, hb3⟩
    have T3 := Lib.hid (T2.out.step hb3)
    clear hb3 T2 R
    have k0 := cells1 T3.out.k
    obtain ⟨f2, _⟩ := frozen2 T3.out.k
    refine leaves_cons (f := 34) (args := #[.pointer (some ⟨w.heap.size + 1, 0, none⟩)]) (by simp) (by simp [go_sem]) ?_
    refine (make_catch ⟨w.heap.size + 1, 0, none⟩ 0 _ k0 f2).mono ?_
    rintro e u' w'' ⟨rfl, rfl, rfl⟩
    have T4 := T3.out.err 14
    exact ⟨_, res_pair rfl _ _ w.heap.size (w.heap.size + 1) 0 0 14 rfl rfl T4.g T4.k, rfl, T4.1⟩
end Go.Proofs.YtbhlpcomgfmodaaDoor.Pro
