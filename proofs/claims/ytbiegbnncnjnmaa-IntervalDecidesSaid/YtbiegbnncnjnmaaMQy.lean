/- What stands beside the walk of IntervalDecides; its ways out. The walk of IntervalDecides. The mathematics and the walk of IntervalDecides. -/
import Derived.Test.YtbiegbnncnjnmaaMLe
import Derived.Lib.QuietBelow
import Derived.Deep.DeepCutAuto
import Derived.Test.YtbiegbnncnjnmaaQV
set_option linter.unusedVariables false
set_option linter.unusedSimpArgs false
namespace Go.Proofs.Ytbiegbnncnjnmaa.Iv
open Go.RowKit Go.Sort
open Go.Proofs.Ytbiegbnncnjnmaa.Pro

def opp (K : Nat) : Int := match K with
  | 0 => 6
  | 1 => 5
  | 2 => 10
  | 3 => 9
  | 4 => 8
  | _ => 7
def aro (K : Nat) : Int := match K with
  | 0 => 5
  | 1 => 6
  | 2 => 9
  | 3 => 10
  | 4 => 7
  | _ => 8
theorem idx6 (g : Nat) {K : Nat} (h : K < 6) (w : World) : (Instr.indexAt 46 (.slice (some ⟨g, 0, none⟩) 6 6) (.int .i64 (K : Int))).run Try.prog w = .ok (.pointer (some ⟨g, K, none⟩)) w := by
  rcases (show K = 0 ∨ K = 1 ∨ K = 2 ∨ K = 3 ∨ K = 4 ∨ K = 5 by omega) with rfl | rfl | rfl | rfl | rfl | rfl <;> go_simp
theorem opp_cell {V : World} {g : Nat} {t : TypeId} (h : V.heap[g]? = some (.cells #[.int .i64 6, .int .i64 5, .int .i64 10, .int .i64 9, .int .i64 8, .int .i64 7] t (0, 0))) {K : Nat} (hK : K < 6) : V.cell? ⟨g, K, none⟩ = some (.int .i64 (opp K)) := by
  rw [cell_of_row _ _ _ _ _ _ h]
  rcases (show K = 0 ∨ K = 1 ∨ K = 2 ∨ K = 3 ∨ K = 4 ∨ K = 5 by omega) with rfl | rfl | rfl | rfl | rfl | rfl <;> rfl
theorem aro_cell {V : World} {g : Nat} {t : TypeId} (h : V.heap[g]? = some (.cells #[.int .i64 5, .int .i64 6, .int .i64 9, .int .i64 10, .int .i64 7, .int .i64 8] t (0, 0))) {K : Nat} (hK : K < 6) : V.cell? ⟨g, K, none⟩ = some (.int .i64 (aro K)) := by
  rw [cell_of_row _ _ _ _ _ _ h]
  rcases (show K = 0 ∨ K = 1 ∨ K = 2 ∨ K = 3 ∨ K = 4 ∨ K = 5 by omega) with rfl | rfl | rfl | rfl | rfl | rfl <;> rfl
set_option maxRecDepth 100000 in
set_option maxHeartbeats 8000000 in
theorem dlaw_out1 (a b c d p q r s f g t v ee : Int) (hn : ¬ ee = 0)
    (K1 : Hid (∀ w : World, Calls Try.prog 13 #[.agg #[.int .i64 a, .int .i64 b, .int .i64 c, .int .i64 d]] w fun e w' => e = .returned (.int .i64 ee) ∧ Below w.heap.size w w'))
    (C5 : Hid (∀ w : World, Calls Try.prog 28 #[.int .i64 5, .agg #[.int .i64 a, .int .i64 b, .int .i64 c, .int .i64 d], .agg #[.int .i64 p, .int .i64 q, .int .i64 r, .int .i64 s]] w fun e w' => e = .returned (.int .i64 (-1)) ∧ Below w.heap.size w w'))
    (AW : Hid (∀ w : World, Calls Try.prog 19 #[] w fun e w' => e = .returned (.bool true) ∧ Below w.heap.size w w'))
    (w : World) : Calls Try.prog 9 #[.agg #[.int .i64 a, .int .i64 b, .int .i64 c, .int .i64 d], .agg #[.int .i64 p, .int .i64 q, .int .i64 r, .int .i64 s], .agg #[.int .i64 f, .int .i64 g], .agg #[.int .i64 t, .int .i64 v]] w fun e w' => e = .returned (.bool true) ∧ Below w.heap.size w w' := by
  have hnb : (ee != 0) = true := by simp [hn]
  have T0 := Lib.hid (four0 w #[.int .i64 a, .int .i64 b, .int .i64 c, .int .i64 d] #[.int .i64 p, .int .i64 q, .int .i64 r, .int .i64 s] #[.int .i64 f, .int .i64 g] #[.int .i64 t, .int .i64 v] 25 25 23 23)
  go_enter Try.func9, Try.ntmps9
  go_upto_region 1 with fail
  generalize (((w.alloc (.cells #[.int .i64 a, .int .i64 b, .int .i64 c, .int .i64 d] 25)).alloc (.cells #[.int .i64 p, .int .i64 q, .int .i64 r, .int .i64 s] 25)).alloc (.cells #[.int .i64 f, .int .i64 g] 23)).alloc (.cells #[.int .i64 t, .int .i64 v] 23) = W0 at *
  obtain ⟨x0, x1, x2, x3, x4⟩ := Has.c4 (g := w.heap.size) (x := .int .i64 a) (y := .int .i64 b) (z := .int .i64 c) (u := .int .i64 d) (t := 25) T0.out (by simp)
  obtain ⟨y0, y1, y2, y3, y4⟩ := Has.c4 (g := w.heap.size + 1) (x := .int .i64 p) (y := .int .i64 q) (z := .int .i64 r) (u := .int .i64 s) (t := 25) T0.out (by simp)
  obtain ⟨k0, k1, k4⟩ := Has.c2 (g := w.heap.size + 1 + 1) (x := .int .i64 f) (y := .int .i64 g) (t := 23) T0.out (by simp)
  obtain ⟨l0, l1, l4⟩ := Has.c2 (g := w.heap.size + 1 + 1 + 1) (x := .int .i64 t) (y := .int .i64 v) (t := 23) T0.out (by simp)
  go_wp2_with fail
  with_reducible refine (K1.out _).mono ?_
  rintro e w1 ⟨rfl, hb⟩
  have T1 := Lib.hid (T0.out.step hb)
  clear hb T0
  clear x0 x1 x2 x3 x4 y0 y1 y2 y3 y4 k0 k1 k4 l0 l1 l4
  obtain ⟨x0, x1, x2, x3, x4⟩ := Has.c4 (g := w.heap.size) (x := .int .i64 a) (y := .int .i64 b) (z := .int .i64 c) (u := .int .i64 d) (t := 25) T1.out (by simp)
  obtain ⟨y0, y1, y2, y3, y4⟩ := Has.c4 (g := w.heap.size + 1) (x := .int .i64 p) (y := .int .i64 q) (z := .int .i64 r) (u := .int .i64 s) (t := 25) T1.out (by simp)
  obtain ⟨k0, k1, k4⟩ := Has.c2 (g := w.heap.size + 1 + 1) (x := .int .i64 f) (y := .int .i64 g) (t := 23) T1.out (by simp)
  obtain ⟨l0, l1, l4⟩ := Has.c2 (g := w.heap.size + 1 + 1 + 1) (x := .int .i64 t) (y := .int .i64 v) (t := 23) T1.out (by simp)
  go_wp2_with fail
  with_reducible refine (C5.out _).mono ?_
  rintro e w3 ⟨rfl, hb⟩
  have T3 := Lib.hid (T1.out.step hb)
  clear hb T1
  clear x0 x1 x2 x3 x4 y0 y1 y2 y3 y4 k0 k1 k4 l0 l1 l4
  go_wp2_with fail
  with_reducible refine (AW.out _).mono ?_
  rintro e w4 ⟨rfl, hb⟩
  have T4 := Lib.hid (T3.out.step hb)
  clear hb T3
  go_wp2
  go_ret
  exact ⟨rfl, T4.out.1⟩
set_option maxRecDepth 100000 in
set_option maxHeartbeats 8000000 in
theorem dlaw_out2 (a b c d p q r s f g t v ee : Int) (hn : ¬ ee = 0)
    (K1 : Hid (∀ w : World, Calls Try.prog 13 #[.agg #[.int .i64 a, .int .i64 b, .int .i64 c, .int .i64 d]] w fun e w' => e = .returned (.int .i64 0) ∧ Below w.heap.size w w'))
    (K2 : Hid (∀ w : World, Calls Try.prog 13 #[.agg #[.int .i64 p, .int .i64 q, .int .i64 r, .int .i64 s]] w fun e w' => e = .returned (.int .i64 ee) ∧ Below w.heap.size w w'))
    (C5 : Hid (∀ w : World, Calls Try.prog 28 #[.int .i64 5, .agg #[.int .i64 a, .int .i64 b, .int .i64 c, .int .i64 d], .agg #[.int .i64 p, .int .i64 q, .int .i64 r, .int .i64 s]] w fun e w' => e = .returned (.int .i64 (-1)) ∧ Below w.heap.size w w'))
    (AW : Hid (∀ w : World, Calls Try.prog 19 #[] w fun e w' => e = .returned (.bool true) ∧ Below w.heap.size w w'))
    (w : World) : Calls Try.prog 9 #[.agg #[.int .i64 a, .int .i64 b, .int .i64 c, .int .i64 d], .agg #[.int .i64 p, .int .i64 q, .int .i64 r, .int .i64 s], .agg #[.int .i64 f, .int .i64 g], .agg #[.int .i64 t, .int .i64 v]] w fun e w' => e = .returned (.bool true) ∧ Below w.heap.size w w' := by
  have hnb : (ee != 0) = true := by simp [hn]
  have T0 := Lib.hid (four0 w #[.int .i64 a, .int .i64 b, .int .i64 c, .int .i64 d] #[.int .i64 p, .int .i64 q, .int .i64 r, .int .i64 s] #[.int .i64 f, .int .i64 g] #[.int .i64 t, .int .i64 v] 25 25 23 23)
  go_enter Try.func9, Try.ntmps9
  go_upto_region 1 with fail
  generalize (((w.alloc (.cells #[.int .i64 a, .int .i64 b, .int .i64 c, .int .i64 d] 25)).alloc (.cells #[.int .i64 p, .int .i64 q, .int .i64 r, .int .i64 s] 25)).alloc (.cells #[.int .i64 f, .int .i64 g] 23)).alloc (.cells #[.int .i64 t, .int .i64 v] 23) = W0 at *
  obtain ⟨x0, x1, x2, x3, x4⟩ := Has.c4 (g := w.heap.size) (x := .int .i64 a) (y := .int .i64 b) (z := .int .i64 c) (u := .int .i64 d) (t := 25) T0.out (by simp)
  obtain ⟨y0, y1, y2, y3, y4⟩ := Has.c4 (g := w.heap.size + 1) (x := .int .i64 p) (y := .int .i64 q) (z := .int .i64 r) (u := .int .i64 s) (t := 25) T0.out (by simp)
  obtain ⟨k0, k1, k4⟩ := Has.c2 (g := w.heap.size + 1 + 1) (x := .int .i64 f) (y := .int .i64 g) (t := 23) T0.out (by simp)
  obtain ⟨l0, l1, l4⟩ := Has.c2 (g := w.heap.size + 1 + 1 + 1) (x := .int .i64 t) (y := .int .i64 v) (t := 23) T0.out (by simp)
  go_wp2_with fail
  with_reducible refine (K1.out _).mono ?_
  rintro e w1 ⟨rfl, hb⟩
  have T1 := Lib.hid (T0.out.step hb)
  clear hb T0
  clear x0 x1 x2 x3 x4 y0 y1 y2 y3 y4 k0 k1 k4 l0 l1 l4
  obtain ⟨x0, x1, x2, x3, x4⟩ := Has.c4 (g := w.heap.size) (x := .int .i64 a) (y := .int .i64 b) (z := .int .i64 c) (u := .int .i64 d) (t := 25) T1.out (by simp)
  obtain ⟨y0, y1, y2, y3, y4⟩ := Has.c4 (g := w.heap.size + 1) (x := .int .i64 p) (y := .int .i64 q) (z := .int .i64 r) (u := .int .i64 s) (t := 25) T1.out (by simp)
  obtain ⟨k0, k1, k4⟩ := Has.c2 (g := w.heap.size + 1 + 1) (x := .int .i64 f) (y := .int .i64 g) (t := 23) T1.out (by simp)
  obtain ⟨l0, l1, l4⟩ := Has.c2 (g := w.heap.size + 1 + 1 + 1) (x := .int .i64 t) (y := .int .i64 v) (t := 23) T1.out (by simp)
  go_wp2_with fail
  with_reducible refine (K2.out _).mono ?_
  rintro e w2 ⟨rfl, hb⟩
  have T2 := Lib.hid (T1.out.step hb)
  clear hb T1
  clear x0 x1 x2 x3 x4 y0 y1 y2 y3 y4 k0 k1 k4 l0 l1 l4
  obtain ⟨x0, x1, x2, x3, x4⟩ := Has.c4 (g := w.heap.size) (x := .int .i64 a) (y := .int .i64 b) (z := .int .i64 c) (u := .int .i64 d) (t := 25) T2.out (by simp)
  obtain ⟨y0, y1, y2, y3, y4⟩ := Has.c4 (g := w.heap.size + 1) (x := .int .i64 p) (y := .int .i64 q) (z := .int .i64 r) (u := .int .i64 s) (t := 25) T2.out (by simp)
  obtain ⟨k0, k1, k4⟩ := Has.c2 (g := w.heap.size + 1 + 1) (x := .int .i64 f) (y := .int .i64 g) (t := 23) T2.out (by simp)
  obtain ⟨l0, l1, l4⟩ := Has.c2 (g := w.heap.size + 1 + 1 + 1) (x := .int .i64 t) (y := .int .i64 v) (t := 23) T2.out (by simp)
  go_wp2_with fail
  with_reducible refine (C5.out _).mono ?_
  rintro e w3 ⟨rfl, hb⟩
  have T3 := Lib.hid (T2.out.step hb)
  clear hb T2
  clear x0 x1 x2 x3 x4 y0 y1 y2 y3 y4 k0 k1 k4 l0 l1 l4
  go_wp2_with fail
  with_reducible refine (AW.out _).mono ?_
  rintro e w4 ⟨rfl, hb⟩
  have T4 := Lib.hid (T3.out.step hb)
  clear hb T3
  go_wp2
  go_ret
  exact ⟨rfl, T4.out.1⟩
end Go.Proofs.Ytbiegbnncnjnmaa.Iv
namespace Go.Proofs.Ytbiegbnncnjnmaa.Iv
open Go.RowKit Go.Sort
open Go.Proofs.Ytbiegbnncnjnmaa.Pro

set_option maxRecDepth 100000 in
set_option maxHeartbeats 8000000 in
theorem dlaw_raw (a b c d p q r s f g t v : Int) (n m : Nat → Int) (ba bb : Bool)
    (K1 : Hid (∀ w : World, Calls Try.prog 13 #[.agg #[.int .i64 a, .int .i64 b, .int .i64 c, .int .i64 d]] w fun e w' => e = .returned (.int .i64 0) ∧ Below w.heap.size w w'))
    (K2 : Hid (∀ w : World, Calls Try.prog 13 #[.agg #[.int .i64 p, .int .i64 q, .int .i64 r, .int .i64 s]] w fun e w' => e = .returned (.int .i64 0) ∧ Below w.heap.size w w'))
    (C : Hid (∀ K : Nat, K < 6 → ∀ w : World, Calls Try.prog 28 #[.int .i64 (5 + (K : Int)), .agg #[.int .i64 a, .int .i64 b, .int .i64 c, .int .i64 d], .agg #[.int .i64 p, .int .i64 q, .int .i64 r, .int .i64 s]] w fun e w' => e = .returned (.int .i64 (n K)) ∧ Below w.heap.size w w'))
    (O : Hid (∀ K : Nat, K < 6 → ∀ w : World, Calls Try.prog 28 #[.int .i64 (opp K), .agg #[.int .i64 a, .int .i64 b, .int .i64 c, .int .i64 d], .agg #[.int .i64 p, .int .i64 q, .int .i64 r, .int .i64 s]] w fun e w' => e = .returned (.int .i64 (m K)) ∧ Below w.heap.size w w'))
    (G : Hid (∀ K : Nat, K < 6 → ∀ w : World, Calls Try.prog 28 #[.int .i64 (aro K), .agg #[.int .i64 p, .int .i64 q, .int .i64 r, .int .i64 s], .agg #[.int .i64 a, .int .i64 b, .int .i64 c, .int .i64 d]] w fun e w' => e = .returned (.int .i64 (n K)) ∧ Below w.heap.size w w'))
    (IA : Hid (∀ w : World, Calls Try.prog 30 #[.agg #[.int .i64 f, .int .i64 g], .agg #[.int .i64 a, .int .i64 b, .int .i64 c, .int .i64 d]] w fun e w' => e = .returned (.bool ba) ∧ Below w.heap.size w w'))
    (IB : Hid (∀ w : World, Calls Try.prog 30 #[.agg #[.int .i64 t, .int .i64 v], .agg #[.int .i64 p, .int .i64 q, .int .i64 r, .int .i64 s]] w fun e w' => e = .returned (.bool bb) ∧ Below w.heap.size w w'))
    (HO : Hid (∀ K : Nat, K < 6 → ba = true → bb = true → ¬ n K = -1 → ∀ w : World, Calls Try.prog 33 #[.int .i64 (5 + (K : Int)), .agg #[.int .i64 f, .int .i64 g], .agg #[.int .i64 t, .int .i64 v]] w fun e w' => e = .returned (.bool (n K == 1)) ∧ Below w.heap.size w w'))
    (NM : Hid (∀ K : Nat, K < 6 → (n K = -1 ∧ m K = -1) ∨ (n K = 0 ∧ m K = 1) ∨ (n K = 1 ∧ m K = 0)))
    (n7 : Int)
    (C7 : Hid (∀ w : World, Calls Try.prog 28 #[.int .i64 7, .agg #[.int .i64 a, .int .i64 b, .int .i64 c, .int .i64 d], .agg #[.int .i64 p, .int .i64 q, .int .i64 r, .int .i64 s]] w fun e w' => e = .returned (.int .i64 n7) ∧ Below w.heap.size w w'))
    (N7 : Hid (a = c → b = d → p = r → q = s → ¬ n7 = -1))
    (AW : Hid (∀ w : World, Calls Try.prog 19 #[] w fun e w' => e = .returned (.bool true) ∧ Below w.heap.size w w'))
    (w : World) : Calls Try.prog 9 #[.agg #[.int .i64 a, .int .i64 b, .int .i64 c, .int .i64 d], .agg #[.int .i64 p, .int .i64 q, .int .i64 r, .int .i64 s], .agg #[.int .i64 f, .int .i64 g], .agg #[.int .i64 t, .int .i64 v]] w fun e w' => e = .returned (.bool true) ∧ Below w.heap.size w w' := by
  have T0 := Lib.hid (four0 w #[.int .i64 a, .int .i64 b, .int .i64 c, .int .i64 d] #[.int .i64 p, .int .i64 q, .int .i64 r, .int .i64 s] #[.int .i64 f, .int .i64 g] #[.int .i64 t, .int .i64 v] 25 25 23 23)
  go_enter Try.func9, Try.ntmps9
  go_upto_region 1 with fail
  generalize (((w.alloc (.cells #[.int .i64 a, .int .i64 b, .int .i64 c, .int .i64 d] 25)).alloc (.cells #[.int .i64 p, .int .i64 q, .int .i64 r, .int .i64 s] 25)).alloc (.cells #[.int .i64 f, .int .i64 g] 23)).alloc (.cells #[.int .i64 t, .int .i64 v] 23) = W0 at *
  obtain ⟨x0, x1, x2, x3, x4⟩ := Has.c4 (g := w.heap.size) (x := .int .i64 a) (y := .int .i64 b) (z := .int .i64 c) (u := .int .i64 d) (t := 25) T0.out (by simp)
  obtain ⟨y0, y1, y2, y3, y4⟩ := Has.c4 (g := w.heap.size + 1) (x := .int .i64 p) (y := .int .i64 q) (z := .int .i64 r) (u := .int .i64 s) (t := 25) T0.out (by simp)
  obtain ⟨k0, k1, k4⟩ := Has.c2 (g := w.heap.size + 1 + 1) (x := .int .i64 f) (y := .int .i64 g) (t := 23) T0.out (by simp)
  obtain ⟨l0, l1, l4⟩ := Has.c2 (g := w.heap.size + 1 + 1 + 1) (x := .int .i64 t) (y := .int .i64 v) (t := 23) T0.out (by simp)
  go_wp2_with fail
  with_reducible refine (K1.out _).mono ?_
  rintro e w1 ⟨rfl, hb⟩
  have T1 := Lib.hid (T0.out.step hb)
  clear hb T0
  clear x0 x1 x2 x3 x4 y0 y1 y2 y3 y4 k0 k1 k4 l0 l1 l4
  obtain ⟨x0, x1, x2, x3, x4⟩ := Has.c4 (g := w.heap.size) (x := .int .i64 a) (y := .int .i64 b) (z := .int .i64 c) (u := .int .i64 d) (t := 25) T1.out (by simp)
  obtain ⟨y0, y1, y2, y3, y4⟩ := Has.c4 (g := w.heap.size + 1) (x := .int .i64 p) (y := .int .i64 q) (z := .int .i64 r) (u := .int .i64 s) (t := 25) T1.out (by simp)
  obtain ⟨k0, k1, k4⟩ := Has.c2 (g := w.heap.size + 1 + 1) (x := .int .i64 f) (y := .int .i64 g) (t := 23) T1.out (by simp)
  obtain ⟨l0, l1, l4⟩ := Has.c2 (g := w.heap.size + 1 + 1 + 1) (x := .int .i64 t) (y := .int .i64 v) (t := 23) T1.out (by simp)
  go_wp2_with fail
  with_reducible refine (K2.out _).mono ?_
  rintro e w2 ⟨rfl, hb⟩
  have T2 := Lib.hid (T1.out.step hb)
  clear hb T1
  clear x0 x1 x2 x3 x4 y0 y1 y2 y3 y4 k0 k1 k4 l0 l1 l4
  have T3 := Lib.hid ((T2.out.alloc #[.int .i64 6, .int .i64 5, .int .i64 10, .int .i64 9, .int .i64 8, .int .i64 7] 3).alloc #[.int .i64 5, .int .i64 6, .int .i64 9, .int .i64 10, .int .i64 7, .int .i64 8] 3)
  clear T2
  go_wp2_with fail
  simp only [World.size_alloc] at T3
  generalize hgo : w2.heap.size = go at *
  generalize (w2.alloc (.cells #[.int .i64 6, .int .i64 5, .int .i64 10, .int .i64 9, .int .i64 8, .int .i64 7] 3)).alloc (.cells #[.int .i64 5, .int .i64 6, .int .i64 9, .int .i64 10, .int .i64 7, .int .i64 8] 3) = W3 at *
  clear hgo
  go_loopw [32] (fun vi wr => ∃ K : Nat, vi = .int .i64 (K : Int) ∧ K ≤ 6 ∧ Hid (Has w ((go + 1, #[.int .i64 5, .int .i64 6, .int .i64 9, .int .i64 10, .int .i64 7, .int .i64 8], 3) :: (go, #[.int .i64 6, .int .i64 5, .int .i64 10, .int .i64 9, .int .i64 8, .int .i64 7], 3) :: [(w.heap.size + 1 + 1 + 1, #[.int .i64 t, .int .i64 v], 23), (w.heap.size + 1 + 1, #[.int .i64 f, .int .i64 g], 23), (w.heap.size + 1, #[.int .i64 p, .int .i64 q, .int .i64 r, .int .i64 s], 25), (w.heap.size, #[.int .i64 a, .int .i64 b, .int .i64 c, .int .i64 d], 25)]) wr)) (fun vi _ => (6 - intOf vi).toNat)
  case atStart => exact ⟨0, rfl, by omega, T3⟩
  case round =>
    clear T3
    obtain ⟨K, rfl, hK6, H⟩ := hrel
    by_cases hK : K < 6
    · have hKi : (K : Int) < 6 := by omega
      have hw5 : IntKind.i64.wrap (5 + (K : Int)) = 5 + (K : Int) := by rw [IntKind.wrap_i64]; omega
      have C' := Lib.hid (C.out K hK)
      have O' := Lib.hid (O.out K hK)
      have G' := Lib.hid (G.out K hK)
      have HO' := Lib.hid (HO.out K hK)
      have NM' := NM.out K hK
      clear C O G HO NM C7 N7 AW
      obtain ⟨x0, x1, x2, x3, x4⟩ := Has.c4 (g := w.heap.size) (x := .int .i64 a) (y := .int .i64 b) (z := .int .i64 c) (u := .int .i64 d) (t := 25) H.out (by simp)
      obtain ⟨y0, y1, y2, y3, y4⟩ := Has.c4 (g := w.heap.size + 1) (x := .int .i64 p) (y := .int .i64 q) (z := .int .i64 r) (u := .int .i64 s) (t := 25) H.out (by simp)
      go_wp2_with fail
      with_reducible refine (C'.out _).mono ?_
      rintro e w3 ⟨rfl, hb⟩
      have T1 := Lib.hid (H.out.step hb)
      clear hb H
      clear x0 x1 x2 x3 x4 y0 y1 y2 y3 y4
      clear C'
      go_upto_region 10 with fail
      go_cut [61] (fun sv wx => sv = .bool false ∧ Hid (Has w ((go + 1, #[.int .i64 5, .int .i64 6, .int .i64 9, .int .i64 10, .int .i64 7, .int .i64 8], 3) :: (go, #[.int .i64 6, .int .i64 5, .int .i64 10, .int .i64 9, .int .i64 8, .int .i64 7], 3) :: [(w.heap.size + 1 + 1 + 1, #[.int .i64 t, .int .i64 v], 23), (w.heap.size + 1 + 1, #[.int .i64 f, .int .i64 g], 23), (w.heap.size + 1, #[.int .i64 p, .int .i64 q, .int .i64 r, .int .i64 s], 25), (w.heap.size, #[.int .i64 a, .int .i64 b, .int .i64 c, .int .i64 d], 25)]) wx))
      case first =>
        clear O' G' NM'
        obtain ⟨x0, x1, x2, x3, x4⟩ := Has.c4 (g := w.heap.size) (x := .int .i64 a) (y := .int .i64 b) (z := .int .i64 c) (u := .int .i64 d) (t := 25) T1.out (by simp)
        obtain ⟨y0, y1, y2, y3, y4⟩ := Has.c4 (g := w.heap.size + 1) (x := .int .i64 p) (y := .int .i64 q) (z := .int .i64 r) (u := .int .i64 s) (t := 25) T1.out (by simp)
        obtain ⟨k0, k1, k4⟩ := Has.c2 (g := w.heap.size + 1 + 1) (x := .int .i64 f) (y := .int .i64 g) (t := 23) T1.out (by simp)
        obtain ⟨l0, l1, l4⟩ := Has.c2 (g := w.heap.size + 1 + 1 + 1) (x := .int .i64 t) (y := .int .i64 v) (t := 23) T1.out (by simp)
        go_wp2_with fail
        with_reducible refine (IA.out _).mono ?_
        rintro e w4 ⟨rfl, hb⟩
        have T2 := Lib.hid (T1.out.step hb)
        clear hb T1
        clear x0 x1 x2 x3 x4 y0 y1 y2 y3 y4 k0 k1 k4 l0 l1 l4
        cases ba with
        | false =>
          go_wp2
          go_meet
          exact ⟨rfl, T2⟩
        | true =>
          obtain ⟨x0, x1, x2, x3, x4⟩ := Has.c4 (g := w.heap.size) (x := .int .i64 a) (y := .int .i64 b) (z := .int .i64 c) (u := .int .i64 d) (t := 25) T2.out (by simp)
          obtain ⟨y0, y1, y2, y3, y4⟩ := Has.c4 (g := w.heap.size + 1) (x := .int .i64 p) (y := .int .i64 q) (z := .int .i64 r) (u := .int .i64 s) (t := 25) T2.out (by simp)
          obtain ⟨k0, k1, k4⟩ := Has.c2 (g := w.heap.size + 1 + 1) (x := .int .i64 f) (y := .int .i64 g) (t := 23) T2.out (by simp)
          obtain ⟨l0, l1, l4⟩ := Has.c2 (g := w.heap.size + 1 + 1 + 1) (x := .int .i64 t) (y := .int .i64 v) (t := 23) T2.out (by simp)
          go_wp2_with fail
          with_reducible refine (IB.out _).mono ?_
          rintro e w5 ⟨rfl, hb⟩
          have T3 := Lib.hid (T2.out.step hb)
          clear hb T2
          clear x0 x1 x2 x3 x4 y0 y1 y2 y3 y4 k0 k1 k4 l0 l1 l4
          cases bb with
          | false =>
            go_wp2
            go_meet
            exact ⟨rfl, T3⟩
          | true =>
            by_cases hn : n K = -1
            · have hnb : (n K != -1) = false := by simp [hn]
              clear hn
              clear HO'
              go_wp2
              go_meet
              exact ⟨rfl, T3⟩
            · have hnb : (n K != -1) = true := by simp [hn]
              have HK := Lib.hid (HO'.out (by trivial) (by trivial) hn)
              clear HO'
              obtain ⟨x0, x1, x2, x3, x4⟩ := Has.c4 (g := w.heap.size) (x := .int .i64 a) (y := .int .i64 b) (z := .int .i64 c) (u := .int .i64 d) (t := 25) T3.out (by simp)
              obtain ⟨y0, y1, y2, y3, y4⟩ := Has.c4 (g := w.heap.size + 1) (x := .int .i64 p) (y := .int .i64 q) (z := .int .i64 r) (u := .int .i64 s) (t := 25) T3.out (by simp)
              obtain ⟨k0, k1, k4⟩ := Has.c2 (g := w.heap.size + 1 + 1) (x := .int .i64 f) (y := .int .i64 g) (t := 23) T3.out (by simp)
              obtain ⟨l0, l1, l4⟩ := Has.c2 (g := w.heap.size + 1 + 1 + 1) (x := .int .i64 t) (y := .int .i64 v) (t := 23) T3.out (by simp)
              go_wp2_with fail
              with_reducible refine (HK.out _).mono ?_
              rintro e w6 ⟨rfl, hb⟩
              have T4 := Lib.hid (T3.out.step hb)
              clear hb T3
              go_wp2
              go_meet
              exact ⟨by simp, T4⟩
      case rest =>
        clear IA IB HO' T1
        obtain ⟨rfl, T1⟩ := hcut
        generalize n K = nk at *
        generalize m K = mk at *
        rcases NM' with ⟨rfl, rfl⟩ | ⟨rfl, rfl⟩ | ⟨rfl, rfl⟩
        · skip
          have hi1 := idx6 go hK
          have hi2 := idx6 (go + 1) hK
          have hc1 := cell_regrown (opp_cell (T1.out.row (b := go) (cs := #[.int .i64 6, .int .i64 5, .int .i64 10, .int .i64 9, .int .i64 8, .int .i64 7]) (t := 3) (by simp)) hK)
          obtain ⟨x0, x1, x2, x3, x4⟩ := Has.c4 (g := w.heap.size) (x := .int .i64 a) (y := .int .i64 b) (z := .int .i64 c) (u := .int .i64 d) (t := 25) T1.out (by simp)
          obtain ⟨y0, y1, y2, y3, y4⟩ := Has.c4 (g := w.heap.size + 1) (x := .int .i64 p) (y := .int .i64 q) (z := .int .i64 r) (u := .int .i64 s) (t := 25) T1.out (by simp)
          go_upto_region 12 with fail
          have qx0 := cell_regrown x0
          have qx1 := cell_regrown x1
          have qx2 := cell_regrown x2
          have qx3 := cell_regrown x3
          have qy0 := cell_regrown y0
          have qy1 := cell_regrown y1
          have qy2 := cell_regrown y2
          have qy3 := cell_regrown y3
          clear x0 x1 x2 x3 x4 y0 y1 y2 y3 y4
          have mixed : Try.prog.follows .mixedOrders = true := by kernel_rfl
          refine wp_region_quiet_below (by assumption) (by kernel_rfl) ?_
          quiet_step (fail)
          quiet_step (fail)
          quiet_step (fail)
          quiet_step (fail)
          quiet_step (fail)
          quiet_step (fail)
          quiet_step (exact Calls.regrown_of (O'.out _))
          quiet_step (fail)
          refine wpQuiet_nil ?_
          intro _ hw'
          obtain ⟨⟨dq, osq⟩, hw''⟩ := hw'
          subst hw''
          have T2 := Lib.hid (T1.out.step (below_regrown wc dq osq))
          clear T1 hc1 O' qx0 qx1 qx2 qx3 qy0 qy1 qy2 qy3
          generalize grow (redrawn wc dq) osq = WQ at *
          have hc2 := cell_regrown (aro_cell (T2.out.row (b := go + 1) (cs := #[.int .i64 5, .int .i64 6, .int .i64 9, .int .i64 10, .int .i64 7, .int .i64 8]) (t := 3) (by simp)) hK)
          obtain ⟨x0, x1, x2, x3, x4⟩ := Has.c4 (g := w.heap.size) (x := .int .i64 a) (y := .int .i64 b) (z := .int .i64 c) (u := .int .i64 d) (t := 25) T2.out (by simp)
          obtain ⟨y0, y1, y2, y3, y4⟩ := Has.c4 (g := w.heap.size + 1) (x := .int .i64 p) (y := .int .i64 q) (z := .int .i64 r) (u := .int .i64 s) (t := 25) T2.out (by simp)
          go_upto_region 13 with fail
          have qx0 := cell_regrown x0
          have qx1 := cell_regrown x1
          have qx2 := cell_regrown x2
          have qx3 := cell_regrown x3
          have qy0 := cell_regrown y0
          have qy1 := cell_regrown y1
          have qy2 := cell_regrown y2
          have qy3 := cell_regrown y3
          clear x0 x1 x2 x3 x4 y0 y1 y2 y3 y4
          have mixed : Try.prog.follows .mixedOrders = true := by kernel_rfl
          refine wp_region_quiet_below (by assumption) (by kernel_rfl) ?_
          quiet_step (fail)
          quiet_step (fail)
          quiet_step (fail)
          quiet_step (fail)
          quiet_step (fail)
          quiet_step (fail)
          quiet_step (fail)
          quiet_step (fail)
          quiet_step (fail)
          quiet_step (fail)
          quiet_step (fail)
          quiet_step (fail)
          quiet_step (fail)
          quiet_step (fail)
          quiet_step (fail)
          quiet_step (fail)
          quiet_step (fail)
          quiet_step (fail)
          quiet_step (fail)
          quiet_step (fail)
          quiet_step (fail)
          quiet_step (fail)
          quiet_step (fail)
          quiet_step (fail)
          quiet_step (fail)
          quiet_step (fail)
          quiet_step (fail)
          quiet_step (fail)
          quiet_step (fail)
          quiet_step (fail)
          quiet_step (exact Calls.regrown_of (G'.out _))
          quiet_step (fail)
          quiet_step (fail)
          quiet_step (fail)
          refine wpQuiet_nil ?_
          intro _ hw'
          obtain ⟨⟨dr, osr⟩, hw''⟩ := hw'
          subst hw''
          have T3 := Lib.hid (T2.out.step (below_regrown WQ dr osr))
          clear T2 hc2 G' hi1 hi2 qx0 qx1 qx2 qx3 qy0 qy1 qy2 qy3
          generalize grow (redrawn WQ dr) osr = WR at *
          go_wp2_with fail
          go_roundw
          case rel => exact ⟨K + 1, by go_num, by omega, T3⟩
          case measure => simp [intOf]; omega
        · skip
          have hi1 := idx6 go hK
          have hi2 := idx6 (go + 1) hK
          have hc1 := cell_regrown (opp_cell (T1.out.row (b := go) (cs := #[.int .i64 6, .int .i64 5, .int .i64 10, .int .i64 9, .int .i64 8, .int .i64 7]) (t := 3) (by simp)) hK)
          obtain ⟨x0, x1, x2, x3, x4⟩ := Has.c4 (g := w.heap.size) (x := .int .i64 a) (y := .int .i64 b) (z := .int .i64 c) (u := .int .i64 d) (t := 25) T1.out (by simp)
          obtain ⟨y0, y1, y2, y3, y4⟩ := Has.c4 (g := w.heap.size + 1) (x := .int .i64 p) (y := .int .i64 q) (z := .int .i64 r) (u := .int .i64 s) (t := 25) T1.out (by simp)
          go_upto_region 12 with fail
          have qx0 := cell_regrown x0
          have qx1 := cell_regrown x1
          have qx2 := cell_regrown x2
          have qx3 := cell_regrown x3
          have qy0 := cell_regrown y0
          have qy1 := cell_regrown y1
          have qy2 := cell_regrown y2
          have qy3 := cell_regrown y3
          clear x0 x1 x2 x3 x4 y0 y1 y2 y3 y4
          have mixed : Try.prog.follows .mixedOrders = true := by kernel_rfl
          refine wp_region_quiet_below (by assumption) (by kernel_rfl) ?_
          quiet_step (fail)
          quiet_step (fail)
          quiet_step (fail)
          quiet_step (fail)
          quiet_step (fail)
          quiet_step (fail)
          quiet_step (exact Calls.regrown_of (O'.out _))
          quiet_step (fail)
          refine wpQuiet_nil ?_
          intro _ hw'
          obtain ⟨⟨dq, osq⟩, hw''⟩ := hw'
          subst hw''
          have T2 := Lib.hid (T1.out.step (below_regrown wc dq osq))
          clear T1 hc1 O' qx0 qx1 qx2 qx3 qy0 qy1 qy2 qy3
          generalize grow (redrawn wc dq) osq = WQ at *
          have hc2 := cell_regrown (aro_cell (T2.out.row (b := go + 1) (cs := #[.int .i64 5, .int .i64 6, .int .i64 9, .int .i64 10, .int .i64 7, .int .i64 8]) (t := 3) (by simp)) hK)
          obtain ⟨x0, x1, x2, x3, x4⟩ := Has.c4 (g := w.heap.size) (x := .int .i64 a) (y := .int .i64 b) (z := .int .i64 c) (u := .int .i64 d) (t := 25) T2.out (by simp)
          obtain ⟨y0, y1, y2, y3, y4⟩ := Has.c4 (g := w.heap.size + 1) (x := .int .i64 p) (y := .int .i64 q) (z := .int .i64 r) (u := .int .i64 s) (t := 25) T2.out (by simp)
          go_upto_region 13 with fail
          have qx0 := cell_regrown x0
          have qx1 := cell_regrown x1
          have qx2 := cell_regrown x2
          have qx3 := cell_regrown x3
          have qy0 := cell_regrown y0
          have qy1 := cell_regrown y1
          have qy2 := cell_regrown y2
          have qy3 := cell_regrown y3
          clear x0 x1 x2 x3 x4 y0 y1 y2 y3 y4
          have mixed : Try.prog.follows .mixedOrders = true := by kernel_rfl
          refine wp_region_quiet_below (by assumption) (by kernel_rfl) ?_
          quiet_step (fail)
          quiet_step (fail)
          quiet_step (fail)
          quiet_step (fail)
          quiet_step (fail)
          quiet_step (fail)
          quiet_step (fail)
          quiet_step (fail)
          quiet_step (fail)
          quiet_step (fail)
          quiet_step (fail)
          quiet_step (fail)
          quiet_step (fail)
          quiet_step (fail)
          quiet_step (fail)
          quiet_step (fail)
          quiet_step (fail)
          quiet_step (fail)
          quiet_step (fail)
          quiet_step (fail)
          quiet_step (fail)
          quiet_step (fail)
          quiet_step (fail)
          quiet_step (fail)
          quiet_step (fail)
          quiet_step (fail)
          quiet_step (fail)
          quiet_step (fail)
          quiet_step (fail)
          quiet_step (fail)
          quiet_step (exact Calls.regrown_of (G'.out _))
          quiet_step (fail)
          quiet_step (fail)
          quiet_step (fail)
          refine wpQuiet_nil ?_
          intro _ hw'
          obtain ⟨⟨dr, osr⟩, hw''⟩ := hw'
          subst hw''
          have T3 := Lib.hid (T2.out.step (below_regrown WQ dr osr))
          clear T2 hc2 G' hi1 hi2 qx0 qx1 qx2 qx3 qy0 qy1 qy2 qy3
          generalize grow (redrawn WQ dr) osr = WR at *
          go_wp2_with fail
          go_roundw
          case rel => exact ⟨K + 1, by go_num, by omega, T3⟩
          case measure => simp [intOf]; omega
        · skip
          have hi1 := idx6 go hK
          have hi2 := idx6 (go + 1) hK
          have hc1 := cell_regrown (opp_cell (T1.out.row (b := go) (cs := #[.int .i64 6, .int .i64 5, .int .i64 10, .int .i64 9, .int .i64 8, .int .i64 7]) (t := 3) (by simp)) hK)
          obtain ⟨x0, x1, x2, x3, x4⟩ := Has.c4 (g := w.heap.size) (x := .int .i64 a) (y := .int .i64 b) (z := .int .i64 c) (u := .int .i64 d) (t := 25) T1.out (by simp)
          obtain ⟨y0, y1, y2, y3, y4⟩ := Has.c4 (g := w.heap.size + 1) (x := .int .i64 p) (y := .int .i64 q) (z := .int .i64 r) (u := .int .i64 s) (t := 25) T1.out (by simp)
          go_upto_region 12 with fail
          have qx0 := cell_regrown x0
          have qx1 := cell_regrown x1
          have qx2 := cell_regrown x2
          have qx3 := cell_regrown x3
          have qy0 := cell_regrown y0
          have qy1 := cell_regrown y1
          have qy2 := cell_regrown y2
          have qy3 := cell_regrown y3
          clear x0 x1 x2 x3 x4 y0 y1 y2 y3 y4
          have mixed : Try.prog.follows .mixedOrders = true := by kernel_rfl
          refine wp_region_quiet_below (by assumption) (by kernel_rfl) ?_
          quiet_step (fail)
          quiet_step (fail)
          quiet_step (fail)
          quiet_step (fail)
          quiet_step (fail)
          quiet_step (fail)
          quiet_step (exact Calls.regrown_of (O'.out _))
          quiet_step (fail)
          refine wpQuiet_nil ?_
          intro _ hw'
          obtain ⟨⟨dq, osq⟩, hw''⟩ := hw'
          subst hw''
          have T2 := Lib.hid (T1.out.step (below_regrown wc dq osq))
          clear T1 hc1 O' qx0 qx1 qx2 qx3 qy0 qy1 qy2 qy3
          generalize grow (redrawn wc dq) osq = WQ at *
          have hc2 := cell_regrown (aro_cell (T2.out.row (b := go + 1) (cs := #[.int .i64 5, .int .i64 6, .int .i64 9, .int .i64 10, .int .i64 7, .int .i64 8]) (t := 3) (by simp)) hK)
          obtain ⟨x0, x1, x2, x3, x4⟩ := Has.c4 (g := w.heap.size) (x := .int .i64 a) (y := .int .i64 b) (z := .int .i64 c) (u := .int .i64 d) (t := 25) T2.out (by simp)
          obtain ⟨y0, y1, y2, y3, y4⟩ := Has.c4 (g := w.heap.size + 1) (x := .int .i64 p) (y := .int .i64 q) (z := .int .i64 r) (u := .int .i64 s) (t := 25) T2.out (by simp)
          go_upto_region 13 with fail
          have qx0 := cell_regrown x0
          have qx1 := cell_regrown x1
          have qx2 := cell_regrown x2
          have qx3 := cell_regrown x3
          have qy0 := cell_regrown y0
          have qy1 := cell_regrown y1
          have qy2 := cell_regrown y2
          have qy3 := cell_regrown y3
          clear x0 x1 x2 x3 x4 y0 y1 y2 y3 y4
          have mixed : Try.prog.follows .mixedOrders = true := by kernel_rfl
          refine wp_region_quiet_below (by assumption) (by kernel_rfl) ?_
          quiet_step (fail)
          quiet_step (fail)
          quiet_step (fail)
          quiet_step (fail)
          quiet_step (fail)
          quiet_step (fail)
          quiet_step (fail)
          quiet_step (fail)
          quiet_step (fail)
          quiet_step (fail)
          quiet_step (fail)
          quiet_step (fail)
          quiet_step (fail)
          quiet_step (fail)
          quiet_step (fail)
          quiet_step (fail)
          quiet_step (fail)
          quiet_step (fail)
          quiet_step (fail)
          quiet_step (fail)
          quiet_step (fail)
          quiet_step (fail)
          quiet_step (fail)
          quiet_step (fail)
          quiet_step (fail)
          quiet_step (fail)
          quiet_step (fail)
          quiet_step (fail)
          quiet_step (fail)
          quiet_step (fail)
          quiet_step (exact Calls.regrown_of (G'.out _))
          quiet_step (fail)
          quiet_step (fail)
          quiet_step (fail)
          refine wpQuiet_nil ?_
          intro _ hw'
          obtain ⟨⟨dr, osr⟩, hw''⟩ := hw'
          subst hw''
          have T3 := Lib.hid (T2.out.step (below_regrown WQ dr osr))
          clear T2 hc2 G' hi1 hi2 qx0 qx1 qx2 qx3 qy0 qy1 qy2 qy3
          generalize grow (redrawn WQ dr) osr = WR at *
          go_wp2_with fail
          go_roundw
          case rel => exact ⟨K + 1, by go_num, by omega, T3⟩
          case measure => simp [intOf]; omega
    · obtain rfl : K = 6 := by omega
      have T1 := Lib.hid (H.out.sub (M := [(w.heap.size + 1 + 1 + 1, #[.int .i64 t, .int .i64 v], 23), (w.heap.size + 1 + 1, #[.int .i64 f, .int .i64 g], 23), (w.heap.size + 1, #[.int .i64 p, .int .i64 q, .int .i64 r, .int .i64 s], 25), (w.heap.size, #[.int .i64 a, .int .i64 b, .int .i64 c, .int .i64 d], 25)]) (by intro x hx; exact List.mem_cons_of_mem _ (List.mem_cons_of_mem _ hx)))
      clear C O G HO NM IA IB H hK hK6 K1 K2
      rcases Decidable.em (a = c) with e0 | e0
      rotate_left
      · clear C7 N7
        obtain ⟨x0, x1, x2, x3, x4⟩ := Has.c4 (g := w.heap.size) (x := .int .i64 a) (y := .int .i64 b) (z := .int .i64 c) (u := .int .i64 d) (t := 25) T1.out (by simp)
        obtain ⟨y0, y1, y2, y3, y4⟩ := Has.c4 (g := w.heap.size + 1) (x := .int .i64 p) (y := .int .i64 q) (z := .int .i64 r) (u := .int .i64 s) (t := 25) T1.out (by simp)
        go_wp2_with fail
        with_reducible refine (AW.out _).mono ?_
        rintro e w9 ⟨rfl, hb⟩
        have T9 := Lib.hid (T1.out.step hb)
        clear hb
        go_wp2
        go_ret
        exact ⟨rfl, T9.out.1⟩
      rcases Decidable.em (b = d) with e1 | e1
      rotate_left
      · clear C7 N7
        obtain ⟨x0, x1, x2, x3, x4⟩ := Has.c4 (g := w.heap.size) (x := .int .i64 a) (y := .int .i64 b) (z := .int .i64 c) (u := .int .i64 d) (t := 25) T1.out (by simp)
        obtain ⟨y0, y1, y2, y3, y4⟩ := Has.c4 (g := w.heap.size + 1) (x := .int .i64 p) (y := .int .i64 q) (z := .int .i64 r) (u := .int .i64 s) (t := 25) T1.out (by simp)
        go_wp2_with fail
        with_reducible refine (AW.out _).mono ?_
        rintro e w9 ⟨rfl, hb⟩
        have T9 := Lib.hid (T1.out.step hb)
        clear hb
        go_wp2
        go_ret
        exact ⟨rfl, T9.out.1⟩
      rcases Decidable.em (p = r) with e2 | e2
      rotate_left
      · clear C7 N7
        obtain ⟨x0, x1, x2, x3, x4⟩ := Has.c4 (g := w.heap.size) (x := .int .i64 a) (y := .int .i64 b) (z := .int .i64 c) (u := .int .i64 d) (t := 25) T1.out (by simp)
        obtain ⟨y0, y1, y2, y3, y4⟩ := Has.c4 (g := w.heap.size + 1) (x := .int .i64 p) (y := .int .i64 q) (z := .int .i64 r) (u := .int .i64 s) (t := 25) T1.out (by simp)
        go_wp2_with fail
        with_reducible refine (AW.out _).mono ?_
        rintro e w9 ⟨rfl, hb⟩
        have T9 := Lib.hid (T1.out.step hb)
        clear hb
        go_wp2
        go_ret
        exact ⟨rfl, T9.out.1⟩
      rcases Decidable.em (q = s) with e3 | e3
      rotate_left
      · clear C7 N7
        obtain ⟨x0, x1, x2, x3, x4⟩ := Has.c4 (g := w.heap.size) (x := .int .i64 a) (y := .int .i64 b) (z := .int .i64 c) (u := .int .i64 d) (t := 25) T1.out (by simp)
        obtain ⟨y0, y1, y2, y3, y4⟩ := Has.c4 (g := w.heap.size + 1) (x := .int .i64 p) (y := .int .i64 q) (z := .int .i64 r) (u := .int .i64 s) (t := 25) T1.out (by simp)
        go_wp2_with fail
        with_reducible refine (AW.out _).mono ?_
        rintro e w9 ⟨rfl, hb⟩
        have T9 := Lib.hid (T1.out.step hb)
        clear hb
        go_wp2
        go_ret
        exact ⟨rfl, T9.out.1⟩
      have hn7 := N7.out e0 e1 e2 e3
      have hn8 : (n7 != -1) = true := by simp [hn7]
      clear N7
      subst e0 e1 e2 e3
      obtain ⟨x0, x1, x2, x3, x4⟩ := Has.c4 (g := w.heap.size) (x := .int .i64 a) (y := .int .i64 b) (z := .int .i64 a) (u := .int .i64 b) (t := 25) T1.out (by simp)
      obtain ⟨y0, y1, y2, y3, y4⟩ := Has.c4 (g := w.heap.size + 1) (x := .int .i64 p) (y := .int .i64 q) (z := .int .i64 p) (u := .int .i64 q) (t := 25) T1.out (by simp)
      go_wp2_with fail
      with_reducible refine (C7.out _).mono ?_
      rintro e w8 ⟨rfl, hb⟩
      have T2 := Lib.hid (T1.out.step hb)
      clear hb T1
      clear x0 x1 x2 x3 x4 y0 y1 y2 y3 y4
      go_wp2_with fail
      with_reducible refine (AW.out _).mono ?_
      rintro e w9 ⟨rfl, hb⟩
      have T9 := Lib.hid (T2.out.step hb)
      clear hb T2
      go_wp2
      go_ret
      exact ⟨rfl, T9.out.1⟩
end Go.Proofs.Ytbiegbnncnjnmaa.Iv
namespace Go.Proofs.Ytbiegbnncnjnmaa.Iv
open Go.RowKit
open Go.Proofs.Ytbiegbnncnjnmaa.Pro (Has Has.alloc)
open Go.Proofs.Ytbiegbnncnjnmaa.Rat (inI)

set_option maxRecDepth 100000 in
set_option maxHeartbeats 2000000 in
theorem lholds5y (a b p q m : Int) (h : m = 0)
    (M : Hid (∀ w : World, Calls Try.prog 39 #[.agg #[.int .i64 a, .int .i64 b], .agg #[.int .i64 p, .int .i64 q]] w fun e w' => e = .returned (.int .i64 m) ∧ Below w.heap.size w w'))
    (w : World) : Calls Try.prog 33 #[.int .i64 5, .agg #[.int .i64 a, .int .i64 b], .agg #[.int .i64 p, .int .i64 q]] w fun e w' => e = .returned (.bool true) ∧ Below w.heap.size w w' := by
  have T0 := Lib.hid (two0 w #[.int .i64 a, .int .i64 b] #[.int .i64 p, .int .i64 q] 23 23)
  have hp : m = 0 := by omega
  have hb1 : (m == 0) = true := by simp [hp]
  have hb2 : (m != 0) = false := by simp [hp]
  clear h hp
  go_enter Try.func33, Try.ntmps33
  go_upto_region 1 with fail
  generalize (w.alloc (.cells #[.int .i64 a, .int .i64 b] 23)).alloc (.cells #[.int .i64 p, .int .i64 q] 23) = W0 at *
  obtain ⟨x0, x1, x4⟩ := Has.c2 (g := w.heap.size) (x := .int .i64 a) (y := .int .i64 b) (t := 23) T0.out (by simp)
  obtain ⟨y0, y1, y4⟩ := Has.c2 (g := w.heap.size + 1) (x := .int .i64 p) (y := .int .i64 q) (t := 23) T0.out (by simp)
  go_wp2_with fail
  with_reducible refine (M.out _).mono ?_
  rintro e w1 ⟨rfl, hb⟩
  have T1 := Lib.hid (T0.out.step hb)
  clear hb T0 M x0 x1 x4 y0 y1 y4
  go_wp2
  go_ret
  exact ⟨by first | rfl | simp [hb1] | simp [hb2], T1.out.1⟩
set_option maxRecDepth 100000 in
set_option maxHeartbeats 2000000 in
theorem lholds5n (a b p q m : Int) (h : ¬ m = 0)
    (M : Hid (∀ w : World, Calls Try.prog 39 #[.agg #[.int .i64 a, .int .i64 b], .agg #[.int .i64 p, .int .i64 q]] w fun e w' => e = .returned (.int .i64 m) ∧ Below w.heap.size w w'))
    (w : World) : Calls Try.prog 33 #[.int .i64 5, .agg #[.int .i64 a, .int .i64 b], .agg #[.int .i64 p, .int .i64 q]] w fun e w' => e = .returned (.bool false) ∧ Below w.heap.size w w' := by
  have T0 := Lib.hid (two0 w #[.int .i64 a, .int .i64 b] #[.int .i64 p, .int .i64 q] 23 23)
  have hp : ¬ m = 0 := by omega
  have hb1 : (m == 0) = false := by simp [hp]
  have hb2 : (m != 0) = true := by simp [hp]
  clear h hp
  go_enter Try.func33, Try.ntmps33
  go_upto_region 1 with fail
  generalize (w.alloc (.cells #[.int .i64 a, .int .i64 b] 23)).alloc (.cells #[.int .i64 p, .int .i64 q] 23) = W0 at *
  obtain ⟨x0, x1, x4⟩ := Has.c2 (g := w.heap.size) (x := .int .i64 a) (y := .int .i64 b) (t := 23) T0.out (by simp)
  obtain ⟨y0, y1, y4⟩ := Has.c2 (g := w.heap.size + 1) (x := .int .i64 p) (y := .int .i64 q) (t := 23) T0.out (by simp)
  go_wp2_with fail
  with_reducible refine (M.out _).mono ?_
  rintro e w1 ⟨rfl, hb⟩
  have T1 := Lib.hid (T0.out.step hb)
  clear hb T0 M x0 x1 x4 y0 y1 y4
  go_wp2
  go_ret
  exact ⟨by first | rfl | simp [hb1] | simp [hb2], T1.out.1⟩
set_option maxRecDepth 100000 in
set_option maxHeartbeats 2000000 in
theorem lholds6y (a b p q m : Int) (h : ¬ m = 0)
    (M : Hid (∀ w : World, Calls Try.prog 39 #[.agg #[.int .i64 a, .int .i64 b], .agg #[.int .i64 p, .int .i64 q]] w fun e w' => e = .returned (.int .i64 m) ∧ Below w.heap.size w w'))
    (w : World) : Calls Try.prog 33 #[.int .i64 6, .agg #[.int .i64 a, .int .i64 b], .agg #[.int .i64 p, .int .i64 q]] w fun e w' => e = .returned (.bool true) ∧ Below w.heap.size w w' := by
  have T0 := Lib.hid (two0 w #[.int .i64 a, .int .i64 b] #[.int .i64 p, .int .i64 q] 23 23)
  have hp : ¬ m = 0 := by omega
  have hb1 : (m == 0) = false := by simp [hp]
  have hb2 : (m != 0) = true := by simp [hp]
  clear h hp
  go_enter Try.func33, Try.ntmps33
  go_upto_region 1 with fail
  generalize (w.alloc (.cells #[.int .i64 a, .int .i64 b] 23)).alloc (.cells #[.int .i64 p, .int .i64 q] 23) = W0 at *
  obtain ⟨x0, x1, x4⟩ := Has.c2 (g := w.heap.size) (x := .int .i64 a) (y := .int .i64 b) (t := 23) T0.out (by simp)
  obtain ⟨y0, y1, y4⟩ := Has.c2 (g := w.heap.size + 1) (x := .int .i64 p) (y := .int .i64 q) (t := 23) T0.out (by simp)
  go_wp2_with fail
  with_reducible refine (M.out _).mono ?_
  rintro e w1 ⟨rfl, hb⟩
  have T1 := Lib.hid (T0.out.step hb)
  clear hb T0 M x0 x1 x4 y0 y1 y4
  go_wp2
  go_ret
  exact ⟨by first | rfl | simp [hb1] | simp [hb2], T1.out.1⟩
set_option maxRecDepth 100000 in
set_option maxHeartbeats 2000000 in
theorem lholds6n (a b p q m : Int) (h : ¬ (¬ m = 0))
    (M : Hid (∀ w : World, Calls Try.prog 39 #[.agg #[.int .i64 a, .int .i64 b], .agg #[.int .i64 p, .int .i64 q]] w fun e w' => e = .returned (.int .i64 m) ∧ Below w.heap.size w w'))
    (w : World) : Calls Try.prog 33 #[.int .i64 6, .agg #[.int .i64 a, .int .i64 b], .agg #[.int .i64 p, .int .i64 q]] w fun e w' => e = .returned (.bool false) ∧ Below w.heap.size w w' := by
  have T0 := Lib.hid (two0 w #[.int .i64 a, .int .i64 b] #[.int .i64 p, .int .i64 q] 23 23)
  have hp : m = 0 := by omega
  have hb1 : (m == 0) = true := by simp [hp]
  have hb2 : (m != 0) = false := by simp [hp]
  clear h hp
  go_enter Try.func33, Try.ntmps33
  go_upto_region 1 with fail
  generalize (w.alloc (.cells #[.int .i64 a, .int .i64 b] 23)).alloc (.cells #[.int .i64 p, .int .i64 q] 23) = W0 at *
  obtain ⟨x0, x1, x4⟩ := Has.c2 (g := w.heap.size) (x := .int .i64 a) (y := .int .i64 b) (t := 23) T0.out (by simp)
  obtain ⟨y0, y1, y4⟩ := Has.c2 (g := w.heap.size + 1) (x := .int .i64 p) (y := .int .i64 q) (t := 23) T0.out (by simp)
  go_wp2_with fail
  with_reducible refine (M.out _).mono ?_
  rintro e w1 ⟨rfl, hb⟩
  have T1 := Lib.hid (T0.out.step hb)
  clear hb T0 M x0 x1 x4 y0 y1 y4
  go_wp2
  go_ret
  exact ⟨by first | rfl | simp [hb1] | simp [hb2], T1.out.1⟩
set_option maxRecDepth 100000 in
set_option maxHeartbeats 2000000 in
theorem lholds7y (a b p q m : Int) (h : m < 0)
    (M : Hid (∀ w : World, Calls Try.prog 39 #[.agg #[.int .i64 a, .int .i64 b], .agg #[.int .i64 p, .int .i64 q]] w fun e w' => e = .returned (.int .i64 m) ∧ Below w.heap.size w w'))
    (w : World) : Calls Try.prog 33 #[.int .i64 7, .agg #[.int .i64 a, .int .i64 b], .agg #[.int .i64 p, .int .i64 q]] w fun e w' => e = .returned (.bool true) ∧ Below w.heap.size w w' := by
  have T0 := Lib.hid (two0 w #[.int .i64 a, .int .i64 b] #[.int .i64 p, .int .i64 q] 23 23)
  go_enter Try.func33, Try.ntmps33
  go_upto_region 1 with fail
  generalize (w.alloc (.cells #[.int .i64 a, .int .i64 b] 23)).alloc (.cells #[.int .i64 p, .int .i64 q] 23) = W0 at *
  obtain ⟨x0, x1, x4⟩ := Has.c2 (g := w.heap.size) (x := .int .i64 a) (y := .int .i64 b) (t := 23) T0.out (by simp)
  obtain ⟨y0, y1, y4⟩ := Has.c2 (g := w.heap.size + 1) (x := .int .i64 p) (y := .int .i64 q) (t := 23) T0.out (by simp)
  go_wp2_with fail
  with_reducible refine (M.out _).mono ?_
  rintro e w1 ⟨rfl, hb⟩
  have T1 := Lib.hid (T0.out.step hb)
  clear hb T0 M x0 x1 x4 y0 y1 y4
  go_wp2
  go_ret
  exact ⟨by simp [h], T1.out.1⟩
set_option maxRecDepth 100000 in
set_option maxHeartbeats 2000000 in
theorem lholds7n (a b p q m : Int) (h : ¬ m < 0)
    (M : Hid (∀ w : World, Calls Try.prog 39 #[.agg #[.int .i64 a, .int .i64 b], .agg #[.int .i64 p, .int .i64 q]] w fun e w' => e = .returned (.int .i64 m) ∧ Below w.heap.size w w'))
    (w : World) : Calls Try.prog 33 #[.int .i64 7, .agg #[.int .i64 a, .int .i64 b], .agg #[.int .i64 p, .int .i64 q]] w fun e w' => e = .returned (.bool false) ∧ Below w.heap.size w w' := by
  have T0 := Lib.hid (two0 w #[.int .i64 a, .int .i64 b] #[.int .i64 p, .int .i64 q] 23 23)
  go_enter Try.func33, Try.ntmps33
  go_upto_region 1 with fail
  generalize (w.alloc (.cells #[.int .i64 a, .int .i64 b] 23)).alloc (.cells #[.int .i64 p, .int .i64 q] 23) = W0 at *
  obtain ⟨x0, x1, x4⟩ := Has.c2 (g := w.heap.size) (x := .int .i64 a) (y := .int .i64 b) (t := 23) T0.out (by simp)
  obtain ⟨y0, y1, y4⟩ := Has.c2 (g := w.heap.size + 1) (x := .int .i64 p) (y := .int .i64 q) (t := 23) T0.out (by simp)
  go_wp2_with fail
  with_reducible refine (M.out _).mono ?_
  rintro e w1 ⟨rfl, hb⟩
  have T1 := Lib.hid (T0.out.step hb)
  clear hb T0 M x0 x1 x4 y0 y1 y4
  go_wp2
  go_ret
  exact ⟨by simp [h], T1.out.1⟩
set_option maxRecDepth 100000 in
set_option maxHeartbeats 2000000 in
theorem lholds8y (a b p q m : Int) (h : m ≤ 0)
    (M : Hid (∀ w : World, Calls Try.prog 39 #[.agg #[.int .i64 a, .int .i64 b], .agg #[.int .i64 p, .int .i64 q]] w fun e w' => e = .returned (.int .i64 m) ∧ Below w.heap.size w w'))
    (w : World) : Calls Try.prog 33 #[.int .i64 8, .agg #[.int .i64 a, .int .i64 b], .agg #[.int .i64 p, .int .i64 q]] w fun e w' => e = .returned (.bool true) ∧ Below w.heap.size w w' := by
  have T0 := Lib.hid (two0 w #[.int .i64 a, .int .i64 b] #[.int .i64 p, .int .i64 q] 23 23)
  go_enter Try.func33, Try.ntmps33
  go_upto_region 1 with fail
  generalize (w.alloc (.cells #[.int .i64 a, .int .i64 b] 23)).alloc (.cells #[.int .i64 p, .int .i64 q] 23) = W0 at *
  obtain ⟨x0, x1, x4⟩ := Has.c2 (g := w.heap.size) (x := .int .i64 a) (y := .int .i64 b) (t := 23) T0.out (by simp)
  obtain ⟨y0, y1, y4⟩ := Has.c2 (g := w.heap.size + 1) (x := .int .i64 p) (y := .int .i64 q) (t := 23) T0.out (by simp)
  go_wp2_with fail
  with_reducible refine (M.out _).mono ?_
  rintro e w1 ⟨rfl, hb⟩
  have T1 := Lib.hid (T0.out.step hb)
  clear hb T0 M x0 x1 x4 y0 y1 y4
  go_wp2
  go_ret
  exact ⟨by simp [h], T1.out.1⟩
set_option maxRecDepth 100000 in
set_option maxHeartbeats 2000000 in
theorem lholds8n (a b p q m : Int) (h : ¬ m ≤ 0)
    (M : Hid (∀ w : World, Calls Try.prog 39 #[.agg #[.int .i64 a, .int .i64 b], .agg #[.int .i64 p, .int .i64 q]] w fun e w' => e = .returned (.int .i64 m) ∧ Below w.heap.size w w'))
    (w : World) : Calls Try.prog 33 #[.int .i64 8, .agg #[.int .i64 a, .int .i64 b], .agg #[.int .i64 p, .int .i64 q]] w fun e w' => e = .returned (.bool false) ∧ Below w.heap.size w w' := by
  have T0 := Lib.hid (two0 w #[.int .i64 a, .int .i64 b] #[.int .i64 p, .int .i64 q] 23 23)
  go_enter Try.func33, Try.ntmps33
  go_upto_region 1 with fail
  generalize (w.alloc (.cells #[.int .i64 a, .int .i64 b] 23)).alloc (.cells #[.int .i64 p, .int .i64 q] 23) = W0 at *
  obtain ⟨x0, x1, x4⟩ := Has.c2 (g := w.heap.size) (x := .int .i64 a) (y := .int .i64 b) (t := 23) T0.out (by simp)
  obtain ⟨y0, y1, y4⟩ := Has.c2 (g := w.heap.size + 1) (x := .int .i64 p) (y := .int .i64 q) (t := 23) T0.out (by simp)
  go_wp2_with fail
  with_reducible refine (M.out _).mono ?_
  rintro e w1 ⟨rfl, hb⟩
  have T1 := Lib.hid (T0.out.step hb)
  clear hb T0 M x0 x1 x4 y0 y1 y4
  go_wp2
  go_ret
  exact ⟨by simp [h], T1.out.1⟩
set_option maxRecDepth 100000 in
set_option maxHeartbeats 2000000 in
theorem lholds9y (a b p q m : Int) (h : 0 < m)
    (M : Hid (∀ w : World, Calls Try.prog 39 #[.agg #[.int .i64 a, .int .i64 b], .agg #[.int .i64 p, .int .i64 q]] w fun e w' => e = .returned (.int .i64 m) ∧ Below w.heap.size w w'))
    (w : World) : Calls Try.prog 33 #[.int .i64 9, .agg #[.int .i64 a, .int .i64 b], .agg #[.int .i64 p, .int .i64 q]] w fun e w' => e = .returned (.bool true) ∧ Below w.heap.size w w' := by
  have T0 := Lib.hid (two0 w #[.int .i64 a, .int .i64 b] #[.int .i64 p, .int .i64 q] 23 23)
  go_enter Try.func33, Try.ntmps33
  go_upto_region 1 with fail
  generalize (w.alloc (.cells #[.int .i64 a, .int .i64 b] 23)).alloc (.cells #[.int .i64 p, .int .i64 q] 23) = W0 at *
  obtain ⟨x0, x1, x4⟩ := Has.c2 (g := w.heap.size) (x := .int .i64 a) (y := .int .i64 b) (t := 23) T0.out (by simp)
  obtain ⟨y0, y1, y4⟩ := Has.c2 (g := w.heap.size + 1) (x := .int .i64 p) (y := .int .i64 q) (t := 23) T0.out (by simp)
  go_wp2_with fail
  with_reducible refine (M.out _).mono ?_
  rintro e w1 ⟨rfl, hb⟩
  have T1 := Lib.hid (T0.out.step hb)
  clear hb T0 M x0 x1 x4 y0 y1 y4
  go_wp2
  go_ret
  exact ⟨by simp [h], T1.out.1⟩
set_option maxRecDepth 100000 in
set_option maxHeartbeats 2000000 in
theorem lholds9n (a b p q m : Int) (h : ¬ 0 < m)
    (M : Hid (∀ w : World, Calls Try.prog 39 #[.agg #[.int .i64 a, .int .i64 b], .agg #[.int .i64 p, .int .i64 q]] w fun e w' => e = .returned (.int .i64 m) ∧ Below w.heap.size w w'))
    (w : World) : Calls Try.prog 33 #[.int .i64 9, .agg #[.int .i64 a, .int .i64 b], .agg #[.int .i64 p, .int .i64 q]] w fun e w' => e = .returned (.bool false) ∧ Below w.heap.size w w' := by
  have T0 := Lib.hid (two0 w #[.int .i64 a, .int .i64 b] #[.int .i64 p, .int .i64 q] 23 23)
  go_enter Try.func33, Try.ntmps33
  go_upto_region 1 with fail
  generalize (w.alloc (.cells #[.int .i64 a, .int .i64 b] 23)).alloc (.cells #[.int .i64 p, .int .i64 q] 23) = W0 at *
  obtain ⟨x0, x1, x4⟩ := Has.c2 (g := w.heap.size) (x := .int .i64 a) (y := .int .i64 b) (t := 23) T0.out (by simp)
  obtain ⟨y0, y1, y4⟩ := Has.c2 (g := w.heap.size + 1) (x := .int .i64 p) (y := .int .i64 q) (t := 23) T0.out (by simp)
  go_wp2_with fail
  with_reducible refine (M.out _).mono ?_
  rintro e w1 ⟨rfl, hb⟩
  have T1 := Lib.hid (T0.out.step hb)
  clear hb T0 M x0 x1 x4 y0 y1 y4
  go_wp2
  go_ret
  exact ⟨by simp [h], T1.out.1⟩
set_option maxRecDepth 100000 in
set_option maxHeartbeats 2000000 in
theorem lholds10y (a b p q m : Int) (h : 0 ≤ m)
    (M : Hid (∀ w : World, Calls Try.prog 39 #[.agg #[.int .i64 a, .int .i64 b], .agg #[.int .i64 p, .int .i64 q]] w fun e w' => e = .returned (.int .i64 m) ∧ Below w.heap.size w w'))
    (w : World) : Calls Try.prog 33 #[.int .i64 10, .agg #[.int .i64 a, .int .i64 b], .agg #[.int .i64 p, .int .i64 q]] w fun e w' => e = .returned (.bool true) ∧ Below w.heap.size w w' := by
  have T0 := Lib.hid (two0 w #[.int .i64 a, .int .i64 b] #[.int .i64 p, .int .i64 q] 23 23)
  go_enter Try.func33, Try.ntmps33
  go_upto_region 1 with fail
  generalize (w.alloc (.cells #[.int .i64 a, .int .i64 b] 23)).alloc (.cells #[.int .i64 p, .int .i64 q] 23) = W0 at *
  obtain ⟨x0, x1, x4⟩ := Has.c2 (g := w.heap.size) (x := .int .i64 a) (y := .int .i64 b) (t := 23) T0.out (by simp)
  obtain ⟨y0, y1, y4⟩ := Has.c2 (g := w.heap.size + 1) (x := .int .i64 p) (y := .int .i64 q) (t := 23) T0.out (by simp)
  go_wp2_with fail
  with_reducible refine (M.out _).mono ?_
  rintro e w1 ⟨rfl, hb⟩
  have T1 := Lib.hid (T0.out.step hb)
  clear hb T0 M x0 x1 x4 y0 y1 y4
  go_wp2
  go_ret
  exact ⟨by simp [h], T1.out.1⟩
set_option maxRecDepth 100000 in
set_option maxHeartbeats 2000000 in
theorem lholds10n (a b p q m : Int) (h : ¬ 0 ≤ m)
    (M : Hid (∀ w : World, Calls Try.prog 39 #[.agg #[.int .i64 a, .int .i64 b], .agg #[.int .i64 p, .int .i64 q]] w fun e w' => e = .returned (.int .i64 m) ∧ Below w.heap.size w w'))
    (w : World) : Calls Try.prog 33 #[.int .i64 10, .agg #[.int .i64 a, .int .i64 b], .agg #[.int .i64 p, .int .i64 q]] w fun e w' => e = .returned (.bool false) ∧ Below w.heap.size w w' := by
  have T0 := Lib.hid (two0 w #[.int .i64 a, .int .i64 b] #[.int .i64 p, .int .i64 q] 23 23)
  go_enter Try.func33, Try.ntmps33
  go_upto_region 1 with fail
  generalize (w.alloc (.cells #[.int .i64 a, .int .i64 b] 23)).alloc (.cells #[.int .i64 p, .int .i64 q] 23) = W0 at *
  obtain ⟨x0, x1, x4⟩ := Has.c2 (g := w.heap.size) (x := .int .i64 a) (y := .int .i64 b) (t := 23) T0.out (by simp)
  obtain ⟨y0, y1, y4⟩ := Has.c2 (g := w.heap.size + 1) (x := .int .i64 p) (y := .int .i64 q) (t := 23) T0.out (by simp)
  go_wp2_with fail
  with_reducible refine (M.out _).mono ?_
  rintro e w1 ⟨rfl, hb⟩
  have T1 := Lib.hid (T0.out.step hb)
  clear hb T0 M x0 x1 x4 y0 y1 y4
  go_wp2
  go_ret
  exact ⟨by simp [h], T1.out.1⟩
/-- What holds answers. -/
def hq (op m : Int) : Bool := if op = 5 then decide (m = 0) else if op = 6 then decide (¬ m = 0) else if op = 7 then decide (m < 0) else if op = 8 then decide (m ≤ 0) else if op = 9 then decide (0 < m) else decide (0 ≤ m)
theorem holds4 (n1 d1 n2 d2 : Int) (i1 : inI n1) (j1 : inI d1) (i2 : inI n2) (j2 : inI d2) {K : Nat} (hK : K < 6) : Hid (∀ w : World, Calls Try.prog 33 #[.int .i64 (5 + (K : Int)), .agg #[.int .i64 n1, .int .i64 d1], .agg #[.int .i64 n2, .int .i64 d2]] w fun e w' => e = .returned (.bool (hq (5 + (K : Int)) (Rat.cmpOut n1 d1 n2 d2))) ∧ Below w.heap.size w w') := Lib.hid fun w => by
  have M := rcm n1 d1 n2 d2 i1 j1 i2 j2
  rcases (show K = 0 ∨ K = 1 ∨ K = 2 ∨ K = 3 ∨ K = 4 ∨ K = 5 by omega) with rfl | rfl | rfl | rfl | rfl | rfl
  · by_cases h : Rat.cmpOut n1 d1 n2 d2 = 0
    · rw [show hq (5 + ((0 : Nat) : Int)) (Rat.cmpOut n1 d1 n2 d2) = true from decide_eq_true h]
      exact lholds5y n1 d1 n2 d2 _ h M w
    · rw [show hq (5 + ((0 : Nat) : Int)) (Rat.cmpOut n1 d1 n2 d2) = false from decide_eq_false h]
      exact lholds5n n1 d1 n2 d2 _ h M w
  · by_cases h : ¬ Rat.cmpOut n1 d1 n2 d2 = 0
    · rw [show hq (5 + ((1 : Nat) : Int)) (Rat.cmpOut n1 d1 n2 d2) = true from decide_eq_true h]
      exact lholds6y n1 d1 n2 d2 _ h M w
    · rw [show hq (5 + ((1 : Nat) : Int)) (Rat.cmpOut n1 d1 n2 d2) = false from decide_eq_false h]
      exact lholds6n n1 d1 n2 d2 _ h M w
  · by_cases h : Rat.cmpOut n1 d1 n2 d2 < 0
    · rw [show hq (5 + ((2 : Nat) : Int)) (Rat.cmpOut n1 d1 n2 d2) = true from decide_eq_true h]
      exact lholds7y n1 d1 n2 d2 _ h M w
    · rw [show hq (5 + ((2 : Nat) : Int)) (Rat.cmpOut n1 d1 n2 d2) = false from decide_eq_false h]
      exact lholds7n n1 d1 n2 d2 _ h M w
  · by_cases h : Rat.cmpOut n1 d1 n2 d2 ≤ 0
    · rw [show hq (5 + ((3 : Nat) : Int)) (Rat.cmpOut n1 d1 n2 d2) = true from decide_eq_true h]
      exact lholds8y n1 d1 n2 d2 _ h M w
    · rw [show hq (5 + ((3 : Nat) : Int)) (Rat.cmpOut n1 d1 n2 d2) = false from decide_eq_false h]
      exact lholds8n n1 d1 n2 d2 _ h M w
  · by_cases h : 0 < Rat.cmpOut n1 d1 n2 d2
    · rw [show hq (5 + ((4 : Nat) : Int)) (Rat.cmpOut n1 d1 n2 d2) = true from decide_eq_true h]
      exact lholds9y n1 d1 n2 d2 _ h M w
    · rw [show hq (5 + ((4 : Nat) : Int)) (Rat.cmpOut n1 d1 n2 d2) = false from decide_eq_false h]
      exact lholds9n n1 d1 n2 d2 _ h M w
  · by_cases h : 0 ≤ Rat.cmpOut n1 d1 n2 d2
    · rw [show hq (5 + ((5 : Nat) : Int)) (Rat.cmpOut n1 d1 n2 d2) = true from decide_eq_true h]
      exact lholds10y n1 d1 n2 d2 _ h M w
    · rw [show hq (5 + ((5 : Nat) : Int)) (Rat.cmpOut n1 d1 n2 d2) = false from decide_eq_false h]
      exact lholds10n n1 d1 n2 d2 _ h M w
theorem dec_int {m1 m3 : Int} (r1 : m1 = -1 ∨ m1 = 0 ∨ m1 = 1) (r3 : m3 = -1 ∨ m3 = 0 ∨ m3 = 1) (k1 : m1 < 0 → m3 < 0) (k2 : m1 ≤ 0 → m3 ≤ 0) {K : Nat} (hK : K < 6) :
    ((icmp (5 + (K : Int)) m1 (-m3) m3 = -1 ∧ icmp (opp K) m1 (-m3) m3 = -1) ∨ (icmp (5 + (K : Int)) m1 (-m3) m3 = 0 ∧ icmp (opp K) m1 (-m3) m3 = 1) ∨ (icmp (5 + (K : Int)) m1 (-m3) m3 = 1 ∧ icmp (opp K) m1 (-m3) m3 = 0)) ∧
      icmp (aro K) (-m3) m1 (-m1) = icmp (5 + (K : Int)) m1 (-m3) m3 := by
  rcases (show K = 0 ∨ K = 1 ∨ K = 2 ∨ K = 3 ∨ K = 4 ∨ K = 5 by omega) with rfl | rfl | rfl | rfl | rfl | rfl <;>
  rcases r1 with rfl | rfl | rfl <;> rcases r3 with rfl | rfl | rfl <;>
  first
    | exact absurd (k1 (by decide)) (by decide)
    | exact absurd (k2 (by decide)) (by decide)
    | decide
theorem hold_int {m1 m3 c : Int} (r1 : m1 = -1 ∨ m1 = 0 ∨ m1 = 1) (r3 : m3 = -1 ∨ m3 = 0 ∨ m3 = 1) (rc : c = -1 ∨ c = 0 ∨ c = 1) (f1 : m1 < 0 → c < 0) (f2 : m1 ≤ 0 → c ≤ 0) (f3 : 0 ≤ m3 → 0 ≤ c) (f4 : 0 < m3 → 0 < c) {K : Nat} (hK : K < 6)
    (hn : ¬ icmp (5 + (K : Int)) m1 (-m3) m3 = -1) : hq (5 + (K : Int)) c = (icmp (5 + (K : Int)) m1 (-m3) m3 == 1) := by
  revert hn
  rcases (show K = 0 ∨ K = 1 ∨ K = 2 ∨ K = 3 ∨ K = 4 ∨ K = 5 by omega) with rfl | rfl | rfl | rfl | rfl | rfl <;>
  rcases r1 with rfl | rfl | rfl <;> rcases r3 with rfl | rfl | rfl <;> rcases rc with rfl | rfl | rfl <;>
  first
    | exact absurd (f1 (by decide)) (by decide)
    | exact absurd (f2 (by decide)) (by decide)
    | exact absurd (f3 (by decide)) (by decide)
    | exact absurd (f4 (by decide)) (by decide)
    | decide
theorem cp_val {x y : I4} {L1 H1 L2 H2 : _root_.Rat} (vx : V4 x L1 H1) (vy : V4 y L2 H2) (op : Int) : cp op x y = icmp op (cmpQ H1 L2) (-cmpQ L1 H2) (cmpQ L1 H2) := by
  unfold cp
  rw [if_pos (vx.ok2 vy), cmp_val vx.2.1 vy.1, cmp_val vy.2.1 vx.1, cmp_val vx.1 vy.2.1, cmpQ_neg L1 H2]
theorem decides_walk (x y : I4) (hx : in4 x) (hy : in4 y) (f g t v : Int) (jf : inI f) (jg : inI g) (jt : inI t) (jv : inI v) (w : World) : Calls Try.prog 9 #[.agg #[.int .i64 x.1, .int .i64 x.2.1, .int .i64 x.2.2.1, .int .i64 x.2.2.2], .agg #[.int .i64 y.1, .int .i64 y.2.1, .int .i64 y.2.2.1, .int .i64 y.2.2.2], .agg #[.int .i64 f, .int .i64 g], .agg #[.int .i64 t, .int .i64 v]] w fun e w' => e = .returned (.bool true) ∧ Below w.heap.size w w' := by
  have K1 := pcheck4 x hx
  have K2 := pcheck4 y hy
  have C5 := pcompare4 5 x y hx hy
  by_cases c1 : ck x = 0
  · by_cases c2 : ck y = 0
    · rw [c1] at K1
      rw [c2] at K2
      obtain ⟨L1, H1, vx⟩ := ck_zero.1 c1
      obtain ⟨L2, H2, vy⟩ := ck_zero.1 c2
      obtain ⟨k1, k2, _⟩ := ends_cmp vx.2.2 vy.2.2
      have r1 := cmpQ_range H1 L2
      have r3 := cmpQ_range L1 H2
      refine dlaw_raw x.1 x.2.1 x.2.2.1 x.2.2.2 y.1 y.2.1 y.2.2.1 y.2.2.2 f g t v (fun K => cp (5 + (K : Int)) x y) (fun K => cp (opp K) x y) (el f g x) (el t v y) K1 K2 (Lib.hid fun K hK => (pcompare4 _ x y hx hy).out) (Lib.hid fun K hK => (pcompare4 _ x y hx hy).out) ?_
        (in4c f g x jf jg hx) (in4c t v y jt jv hy) ?_ ?_ (cp 7 x y) (pcompare4 7 x y hx hy) ?_ awake_any w
      · refine Lib.hid fun K hK => ?_
        have k := (dec_int r1 r3 k1 k2 hK).2
        have e : cp (aro K) y x = cp (5 + (K : Int)) x y := by
          rw [cp_val vx vy, ← k, cp_val vy vx, cmpQ_neg L1 H2, cmpQ_neg H1 L2, Int.neg_neg]
        have G := pcompare4 (aro K) y x hy hx
        rw [e] at G
        exact G.out
      · refine Lib.hid fun K hK ha hb hn => ?_
        obtain ⟨_, _, A, vx', va, a1, a2⟩ := el_iff.1 ha
        obtain ⟨_, _, B, vy', vb, b1, b2⟩ := el_iff.1 hb
        obtain ⟨d1, d2⟩ := vx.det vx'
        obtain ⟨d3, d4⟩ := vy.det vy'
        subst d1 d2 d3 d4
        rw [cp_val vx vy] at hn ⊢
        rw [← hold_int r1 r3 (cmpQ_range A B) (fun h => cmpQ_lt.2 (IvMath.lt_le (IvMath.le_lt a2 (cmpQ_lt.1 h)) b1)) (fun h => cmpQ_le.2 (Rat.le_trans a2 (Rat.le_trans (cmpQ_le.1 h) b1))) (fun h => cmpQ_ge.2 (Rat.le_trans b2 (Rat.le_trans (cmpQ_ge.1 h) a1))) (fun h => cmpQ_gt.2 (IvMath.lt_le (IvMath.le_lt b2 (cmpQ_gt.1 h)) a1)) hK hn, ← cmp_val va vb]
        exact (holds4 f g t v jf jg jt jv hK).out
      · refine Lib.hid fun K hK => ?_
        simp only [cp_val vx vy]
        exact (dec_int r1 r3 k1 k2 hK).1
      · refine Lib.hid fun e1 e2 e3 e4 => ?_
        have vr := vx.2.1
        rw [← e1, ← e2] at vr
        have d1 := vx.1.det vr
        have vs := vy.2.1
        rw [← e3, ← e4] at vs
        have d2 := vy.1.det vs
        rw [cp_val vx vy]
        subst d1 d2
        rcases cmpQ_range L1 L2 with h | h | h <;> rw [h] <;> decide
    · rw [c1] at K1
      have e : cp 5 x y = -1 := by
        unfold cp
        rw [if_neg (fun h => c2 (ok2_iff.1 h).2)]
      rw [e] at C5
      exact dlaw_out2 x.1 x.2.1 x.2.2.1 x.2.2.2 y.1 y.2.1 y.2.2.1 y.2.2.2 f g t v _ c2 K1 K2 C5 awake_any w
  · have e : cp 5 x y = -1 := by
      unfold cp
      rw [if_neg (fun h => c1 (ok2_iff.1 h).1)]
    rw [e] at C5
    exact dlaw_out1 x.1 x.2.1 x.2.2.1 x.2.2.2 y.1 y.2.1 y.2.2.1 y.2.2.2 f g t v _ c1 K1 C5 awake_any w
end Go.Proofs.Ytbiegbnncnjnmaa.Iv
