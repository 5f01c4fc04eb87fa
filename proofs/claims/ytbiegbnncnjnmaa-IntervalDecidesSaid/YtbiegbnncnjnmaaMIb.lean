/- The contracts of the reference of layer 4 (interval): Check, valid, Point, Contains. The contracts of the reference of layer 4 (interval): Width, widened, lesser, greater, Min, Max, Hull, Add, Sub. The contracts of the reference of layer 4 (interval): lesser, greater, Min, Max, Hull, Add, Sub. The contracts of the reference of layer 4 (interval): Add, Sub. -/
import Derived.Test.YtbiegbnncnjnmaaPKit
import Derived.Deep.DeepCutAuto
set_option linter.unusedVariables false
set_option linter.unusedSimpArgs false
namespace Go.Proofs.Ytbiegbnncnjnmaa.Iv
open Go.RowKit
open Go.Proofs.Ytbiegbnncnjnmaa.Pro

theorem cells4 {w : World} {g : Nat} {x y z u : Value} {t : TypeId} (h : w.heap[g]? = some (.cells #[x, y, z, u] t (0, 0))) :
    w.cell? ⟨g, 0, none⟩ = some x ∧ w.cell? ⟨g, 1, none⟩ = some y ∧ w.cell? ⟨g, 2, none⟩ = some z ∧ w.cell? ⟨g, 3, none⟩ = some u :=
  ⟨(cell_of_row _ _ _ _ _ _ h).trans rfl, (cell_of_row _ _ _ _ _ _ h).trans rfl, (cell_of_row _ _ _ _ _ _ h).trans rfl, (cell_of_row _ _ _ _ _ _ h).trans rfl⟩
theorem frozen4 {w : World} {g : Nat} {cs : Array Value} {t : TypeId} (h : w.heap[g]? = some (.cells cs t (0, 0))) : w.frozen? ⟨g, 0, none⟩ = false ∧ w.frozen? ⟨g, 1, none⟩ = false ∧ w.frozen? ⟨g, 2, none⟩ = false ∧ w.frozen? ⟨g, 3, none⟩ = false :=
  ⟨frozen_of_row _ _ _ _ _ h, frozen_of_row _ _ _ _ _ h, frozen_of_row _ _ _ _ _ h, frozen_of_row _ _ _ _ _ h⟩
theorem Has.c4 {w V : World} {L : List (Nat × Array Value × TypeId)} {g : Nat} {x y z u : Value} {t : TypeId} (h : Has w L V) (hx : (g, #[x, y, z, u], t) ∈ L) :
    V.cell? ⟨g, 0, none⟩ = some x ∧ V.cell? ⟨g, 1, none⟩ = some y ∧ V.cell? ⟨g, 2, none⟩ = some z ∧ V.cell? ⟨g, 3, none⟩ = some u ∧ g < V.heap.size :=
  have c := cells4 (h.row hx)
  ⟨c.1, c.2.1, c.2.2.1, c.2.2.2, h.lt hx⟩
theorem Has.f4 {w V : World} {L : List (Nat × Array Value × TypeId)} {g : Nat} {cs : Array Value} {t : TypeId} (h : Has w L V) (hx : (g, cs, t) ∈ L) :
    V.frozen? ⟨g, 0, none⟩ = false ∧ V.frozen? ⟨g, 1, none⟩ = false ∧ V.frozen? ⟨g, 2, none⟩ = false ∧ V.frozen? ⟨g, 3, none⟩ = false := frozen4 (h.row hx)
theorem two0 (w : World) (cs ds : Array Value) (t : TypeId) (s : TypeId) : Has w [(w.heap.size + 1, ds, s), (w.heap.size, cs, t)] ((w.alloc (.cells cs t)).alloc (.cells ds s)) := by
  have h := ((Has.start w).alloc cs t).alloc ds s
  simp only [World.size_alloc] at h
  exact h
theorem three0 (w : World) (cs ds es : Array Value) (t s u : TypeId) : Has w [(w.heap.size + 1 + 1, es, u), (w.heap.size + 1, ds, s), (w.heap.size, cs, t)] (((w.alloc (.cells cs t)).alloc (.cells ds s)).alloc (.cells es u)) := by
  have h := (((Has.start w).alloc cs t).alloc ds s).alloc es u
  simp only [World.size_alloc] at h
  exact h
set_option maxHeartbeats 1000000 in
theorem icheck_raw (a b c d c1 c2 m : Int)
    (K1 : Hid (∀ w : World, Calls Try.prog 38 #[.agg #[.int .i64 a, .int .i64 b]] w fun e w' => e = .returned (.int .i64 c1) ∧ Below w.heap.size w w'))
    (K2 : Hid (∀ w : World, Calls Try.prog 38 #[.agg #[.int .i64 c, .int .i64 d]] w fun e w' => e = .returned (.int .i64 c2) ∧ Below w.heap.size w w'))
    (M : Hid (∀ w : World, Calls Try.prog 39 #[.agg #[.int .i64 a, .int .i64 b], .agg #[.int .i64 c, .int .i64 d]] w fun e w' => e = .returned (.int .i64 m) ∧ Below w.heap.size w w'))
    (w : World) : Calls Try.prog 14 #[.agg #[.int .i64 a, .int .i64 b, .int .i64 c, .int .i64 d]] w fun e w' => e = .returned (.int .i64 (if c1 = 0 ∧ c2 = 0 then (if 0 < m then 9 else 0) else 1)) ∧ Below w.heap.size w w' := by
  have T0 := Lib.hid ((Has.start w).alloc #[.int .i64 a, .int .i64 b, .int .i64 c, .int .i64 d] 25)
  by_cases h1 : c1 = 0
  · by_cases h2 : c2 = 0
    · subst h1 h2
      by_cases h3 : 0 < m
      · rw [if_pos ⟨rfl, rfl⟩, if_pos h3]
        go_enter Try.func14, Try.ntmps14
        go_wp2_with fail
        with_reducible refine ((K1.out) _).mono ?_
        rintro e w1 ⟨rfl, hb⟩
        have T1 := Lib.hid (T0.out.step hb)
        clear hb T0 K1
        obtain ⟨x0, x1, x2, x3, x4⟩ := Has.c4 (g := w.heap.size) (x := .int .i64 a) (y := .int .i64 b) (z := .int .i64 c) (u := .int .i64 d) (t := 25) T1.out (by simp)
        go_wp2_with fail
        with_reducible refine ((K2.out) _).mono ?_
        rintro e w2 ⟨rfl, hb⟩
        have T2 := Lib.hid (T1.out.step hb)
        clear hb T1 K2 x0 x1 x2 x3 x4
        obtain ⟨x0, x1, x2, x3, x4⟩ := Has.c4 (g := w.heap.size) (x := .int .i64 a) (y := .int .i64 b) (z := .int .i64 c) (u := .int .i64 d) (t := 25) T2.out (by simp)
        go_wp2_with fail
        with_reducible refine ((M.out) _).mono ?_
        rintro e w3 ⟨rfl, hb⟩
        have T3 := Lib.hid (T2.out.step hb)
        clear hb T2 M x0 x1 x2 x3 x4
        go_wp2
        go_ret
        refine ⟨?_, T3.out.1⟩
        first | rfl | (simp [*]; done)
      · rw [if_pos ⟨rfl, rfl⟩, if_neg h3]
        go_enter Try.func14, Try.ntmps14
        go_wp2_with fail
        with_reducible refine ((K1.out) _).mono ?_
        rintro e w1 ⟨rfl, hb⟩
        have T1 := Lib.hid (T0.out.step hb)
        clear hb T0 K1
        obtain ⟨x0, x1, x2, x3, x4⟩ := Has.c4 (g := w.heap.size) (x := .int .i64 a) (y := .int .i64 b) (z := .int .i64 c) (u := .int .i64 d) (t := 25) T1.out (by simp)
        go_wp2_with fail
        with_reducible refine ((K2.out) _).mono ?_
        rintro e w2 ⟨rfl, hb⟩
        have T2 := Lib.hid (T1.out.step hb)
        clear hb T1 K2 x0 x1 x2 x3 x4
        obtain ⟨x0, x1, x2, x3, x4⟩ := Has.c4 (g := w.heap.size) (x := .int .i64 a) (y := .int .i64 b) (z := .int .i64 c) (u := .int .i64 d) (t := 25) T2.out (by simp)
        go_wp2_with fail
        with_reducible refine ((M.out) _).mono ?_
        rintro e w3 ⟨rfl, hb⟩
        have T3 := Lib.hid (T2.out.step hb)
        clear hb T2 M x0 x1 x2 x3 x4
        go_wp2
        go_ret
        refine ⟨?_, T3.out.1⟩
        first | rfl | (simp [*]; done)
    · subst h1
      rw [if_neg (fun x => h2 x.2)]
      go_enter Try.func14, Try.ntmps14
      go_wp2_with fail
      with_reducible refine ((K1.out) _).mono ?_
      rintro e w1 ⟨rfl, hb⟩
      have T1 := Lib.hid (T0.out.step hb)
      clear hb T0 K1
      obtain ⟨x0, x1, x2, x3, x4⟩ := Has.c4 (g := w.heap.size) (x := .int .i64 a) (y := .int .i64 b) (z := .int .i64 c) (u := .int .i64 d) (t := 25) T1.out (by simp)
      go_wp2_with fail
      with_reducible refine ((K2.out) _).mono ?_
      rintro e w2 ⟨rfl, hb⟩
      have T2 := Lib.hid (T1.out.step hb)
      clear hb T1 K2 x0 x1 x2 x3 x4
      go_wp2
      go_ret
      refine ⟨?_, T2.out.1⟩
      first | rfl | (simp [*]; done)
  · rw [if_neg (fun x => h1 x.1)]
    go_enter Try.func14, Try.ntmps14
    go_wp2_with fail
    with_reducible refine ((K1.out) _).mono ?_
    rintro e w1 ⟨rfl, hb⟩
    have T1 := Lib.hid (T0.out.step hb)
    clear hb T0 K1
    go_wp2
    go_ret
    refine ⟨?_, T1.out.1⟩
    first | rfl | (simp [*]; done)
set_option maxHeartbeats 1000000 in
theorem ivalid_raw (a b c d p q r s e1 e2 : Int)
    (K1 : Hid (∀ w : World, Calls Try.prog 14 #[.agg #[.int .i64 a, .int .i64 b, .int .i64 c, .int .i64 d]] w fun e w' => e = .returned (.int .i64 e1) ∧ Below w.heap.size w w'))
    (K2 : Hid (∀ w : World, Calls Try.prog 14 #[.agg #[.int .i64 p, .int .i64 q, .int .i64 r, .int .i64 s]] w fun e w' => e = .returned (.int .i64 e2) ∧ Below w.heap.size w w'))
    (w : World) : Calls Try.prog 41 #[.agg #[.int .i64 a, .int .i64 b, .int .i64 c, .int .i64 d], .agg #[.int .i64 p, .int .i64 q, .int .i64 r, .int .i64 s]] w fun e w' => e = .returned (.bool (decide (e1 = 0 ∧ e2 = 0))) ∧ Below w.heap.size w w' := by
  have T0 := Lib.hid (two0 w #[.int .i64 a, .int .i64 b, .int .i64 c, .int .i64 d] #[.int .i64 p, .int .i64 q, .int .i64 r, .int .i64 s] 25 25)
  by_cases h1 : e1 = 0
  · subst h1
    by_cases h2 : e2 = 0
    · rw [decide_eq_true ⟨rfl, h2⟩]
      go_enter Try.func41, Try.ntmps41
      go_wp2_with fail
      with_reducible refine ((K1.out) _).mono ?_
      rintro e w1 ⟨rfl, hb⟩
      have T1 := Lib.hid (T0.out.step hb)
      clear hb T0 K1
      obtain ⟨x0, x1, x2, x3, x4⟩ := Has.c4 (g := w.heap.size + 1) (x := .int .i64 p) (y := .int .i64 q) (z := .int .i64 r) (u := .int .i64 s) (t := 25) T1.out (by simp)
      go_wp2_with fail
      with_reducible refine ((K2.out) _).mono ?_
      rintro e w2 ⟨rfl, hb⟩
      have T2 := Lib.hid (T1.out.step hb)
      clear hb T1 K2 x0 x1 x2 x3 x4
      go_wp2
      go_ret
      refine ⟨?_, T2.out.1⟩
      first | rfl | (simp [*]; done)
    · rw [decide_eq_false (fun x => h2 x.2)]
      go_enter Try.func41, Try.ntmps41
      go_wp2_with fail
      with_reducible refine ((K1.out) _).mono ?_
      rintro e w1 ⟨rfl, hb⟩
      have T1 := Lib.hid (T0.out.step hb)
      clear hb T0 K1
      obtain ⟨x0, x1, x2, x3, x4⟩ := Has.c4 (g := w.heap.size + 1) (x := .int .i64 p) (y := .int .i64 q) (z := .int .i64 r) (u := .int .i64 s) (t := 25) T1.out (by simp)
      go_wp2_with fail
      with_reducible refine ((K2.out) _).mono ?_
      rintro e w2 ⟨rfl, hb⟩
      have T2 := Lib.hid (T1.out.step hb)
      clear hb T1 K2 x0 x1 x2 x3 x4
      go_wp2
      go_ret
      refine ⟨?_, T2.out.1⟩
      first | rfl | (simp [*]; done)
  · rw [decide_eq_false (fun x => h1 x.1)]
    go_enter Try.func41, Try.ntmps41
    go_wp2_with fail
    with_reducible refine ((K1.out) _).mono ?_
    rintro e w1 ⟨rfl, hb⟩
    have T1 := Lib.hid (T0.out.step hb)
    clear hb T0 K1
    go_wp2
    go_ret
    refine ⟨?_, T1.out.1⟩
    first | rfl | (simp [*]; done)
set_option maxHeartbeats 1000000 in
theorem ipoint_raw (a b : Int) (w : World) : Calls Try.prog 16 #[.agg #[.int .i64 a, .int .i64 b]] w fun e w' => e = .returned (.agg #[.int .i64 a, .int .i64 b, .int .i64 a, .int .i64 b]) ∧ Below w.heap.size w w' := by
  have T0 := Lib.hid (two0 w #[.int .i64 a, .int .i64 b] #[.int .i64 a, .int .i64 b, .int .i64 a, .int .i64 b] 23 25)
  go_enter Try.func16, Try.ntmps16
  go_wp2
  refine bodyPost_ret (results_cell_row rfl _ _ (w.heap.size + 1) 25 #[.int .i64 a, .int .i64 b, .int .i64 a, .int .i64 b] (0, 0) _ rfl (T0.out.row (by simp)) Try.underlying25 rfl (by kernel_rfl)) rfl ?_
  exact ⟨rfl, T0.out.1⟩
set_option maxHeartbeats 1000000 in
theorem icontains_raw (a b c d p q r s m1 m2 : Int) (v : Bool)
    (V : Hid (∀ w : World, Calls Try.prog 41 #[.agg #[.int .i64 a, .int .i64 b, .int .i64 c, .int .i64 d], .agg #[.int .i64 p, .int .i64 q, .int .i64 r, .int .i64 s]] w fun e w' => e = .returned (.bool v) ∧ Below w.heap.size w w'))
    (M1 : Hid (∀ w : World, Calls Try.prog 39 #[.agg #[.int .i64 a, .int .i64 b], .agg #[.int .i64 p, .int .i64 q]] w fun e w' => e = .returned (.int .i64 m1) ∧ Below w.heap.size w w'))
    (M2 : Hid (∀ w : World, Calls Try.prog 39 #[.agg #[.int .i64 r, .int .i64 s], .agg #[.int .i64 c, .int .i64 d]] w fun e w' => e = .returned (.int .i64 m2) ∧ Below w.heap.size w w'))
    (w : World) : Calls Try.prog 18 #[.agg #[.int .i64 a, .int .i64 b, .int .i64 c, .int .i64 d], .agg #[.int .i64 p, .int .i64 q, .int .i64 r, .int .i64 s]] w fun e w' => e = .returned (.bool (v && decide (m1 ≤ 0) && decide (m2 ≤ 0))) ∧ Below w.heap.size w w' := by
  have T0 := Lib.hid (two0 w #[.int .i64 a, .int .i64 b, .int .i64 c, .int .i64 d] #[.int .i64 p, .int .i64 q, .int .i64 r, .int .i64 s] 25 25)
  cases v with
  | false =>
    go_enter Try.func18, Try.ntmps18
    go_wp2_with fail
    with_reducible refine ((V.out) _).mono ?_
    rintro e w1 ⟨rfl, hb⟩
    have T1 := Lib.hid (T0.out.step hb)
    clear hb T0 V
    go_wp2
    go_ret
    refine ⟨?_, T1.out.1⟩
    first | rfl | (simp [*]; done)
  | true =>
    by_cases h1 : m1 ≤ 0
    · by_cases h2 : m2 ≤ 0
      · rw [decide_eq_true h1, decide_eq_true h2]
        go_enter Try.func18, Try.ntmps18
        go_wp2_with fail
        with_reducible refine ((V.out) _).mono ?_
        rintro e w1 ⟨rfl, hb⟩
        have T1 := Lib.hid (T0.out.step hb)
        clear hb T0 V
        obtain ⟨x0, x1, x2, x3, x4⟩ := Has.c4 (g := w.heap.size) (x := .int .i64 a) (y := .int .i64 b) (z := .int .i64 c) (u := .int .i64 d) (t := 25) T1.out (by simp)
        obtain ⟨y0, y1, y2, y3, y4⟩ := Has.c4 (g := w.heap.size + 1) (x := .int .i64 p) (y := .int .i64 q) (z := .int .i64 r) (u := .int .i64 s) (t := 25) T1.out (by simp)
        go_wp2_with fail
        with_reducible refine ((M1.out) _).mono ?_
        rintro e w2 ⟨rfl, hb⟩
        have T2 := Lib.hid (T1.out.step hb)
        clear hb T1 M1 x0 x1 x2 x3 x4 y0 y1 y2 y3 y4
        obtain ⟨x0, x1, x2, x3, x4⟩ := Has.c4 (g := w.heap.size) (x := .int .i64 a) (y := .int .i64 b) (z := .int .i64 c) (u := .int .i64 d) (t := 25) T2.out (by simp)
        obtain ⟨y0, y1, y2, y3, y4⟩ := Has.c4 (g := w.heap.size + 1) (x := .int .i64 p) (y := .int .i64 q) (z := .int .i64 r) (u := .int .i64 s) (t := 25) T2.out (by simp)
        go_wp2_with fail
        with_reducible refine ((M2.out) _).mono ?_
        rintro e w3 ⟨rfl, hb⟩
        have T3 := Lib.hid (T2.out.step hb)
        clear hb T2 M2 x0 x1 x2 x3 x4 y0 y1 y2 y3 y4
        go_wp2
        go_ret
        refine ⟨?_, T3.out.1⟩
        first | rfl | (simp [*]; done)
      · rw [decide_eq_true h1, decide_eq_false h2]
        go_enter Try.func18, Try.ntmps18
        go_wp2_with fail
        with_reducible refine ((V.out) _).mono ?_
        rintro e w1 ⟨rfl, hb⟩
        have T1 := Lib.hid (T0.out.step hb)
        clear hb T0 V
        obtain ⟨x0, x1, x2, x3, x4⟩ := Has.c4 (g := w.heap.size) (x := .int .i64 a) (y := .int .i64 b) (z := .int .i64 c) (u := .int .i64 d) (t := 25) T1.out (by simp)
        obtain ⟨y0, y1, y2, y3, y4⟩ := Has.c4 (g := w.heap.size + 1) (x := .int .i64 p) (y := .int .i64 q) (z := .int .i64 r) (u := .int .i64 s) (t := 25) T1.out (by simp)
        go_wp2_with fail
        with_reducible refine ((M1.out) _).mono ?_
        rintro e w2 ⟨rfl, hb⟩
        have T2 := Lib.hid (T1.out.step hb)
        clear hb T1 M1 x0 x1 x2 x3 x4 y0 y1 y2 y3 y4
        obtain ⟨x0, x1, x2, x3, x4⟩ := Has.c4 (g := w.heap.size) (x := .int .i64 a) (y := .int .i64 b) (z := .int .i64 c) (u := .int .i64 d) (t := 25) T2.out (by simp)
        obtain ⟨y0, y1, y2, y3, y4⟩ := Has.c4 (g := w.heap.size + 1) (x := .int .i64 p) (y := .int .i64 q) (z := .int .i64 r) (u := .int .i64 s) (t := 25) T2.out (by simp)
        go_wp2_with fail
        with_reducible refine ((M2.out) _).mono ?_
        rintro e w3 ⟨rfl, hb⟩
        have T3 := Lib.hid (T2.out.step hb)
        clear hb T2 M2 x0 x1 x2 x3 x4 y0 y1 y2 y3 y4
        go_wp2
        go_ret
        refine ⟨?_, T3.out.1⟩
        first | rfl | (simp [*]; done)
    · rw [decide_eq_false h1]
      go_enter Try.func18, Try.ntmps18
      go_wp2_with fail
      with_reducible refine ((V.out) _).mono ?_
      rintro e w1 ⟨rfl, hb⟩
      have T1 := Lib.hid (T0.out.step hb)
      clear hb T0 V
      obtain ⟨x0, x1, x2, x3, x4⟩ := Has.c4 (g := w.heap.size) (x := .int .i64 a) (y := .int .i64 b) (z := .int .i64 c) (u := .int .i64 d) (t := 25) T1.out (by simp)
      obtain ⟨y0, y1, y2, y3, y4⟩ := Has.c4 (g := w.heap.size + 1) (x := .int .i64 p) (y := .int .i64 q) (z := .int .i64 r) (u := .int .i64 s) (t := 25) T1.out (by simp)
      go_wp2_with fail
      with_reducible refine ((M1.out) _).mono ?_
      rintro e w2 ⟨rfl, hb⟩
      have T2 := Lib.hid (T1.out.step hb)
      clear hb T1 M1 x0 x1 x2 x3 x4 y0 y1 y2 y3 y4
      go_wp2
      go_ret
      refine ⟨?_, T2.out.1⟩
      first | rfl | (simp [*]; done)
end Go.Proofs.Ytbiegbnncnjnmaa.Iv
namespace Go.Proofs.Ytbiegbnncnjnmaa.Iv
open Go.RowKit
open Go.Proofs.Ytbiegbnncnjnmaa.Pro

theorem info25 : (Try.prog.info? 25).map (·.size) = some 4 := by kernel_rfl
theorem Has.c2 {w V : World} {L : List (Nat × Array Value × TypeId)} {g : Nat} {x y : Value} {t : TypeId} (h : Has w L V) (hx : (g, #[x, y], t) ∈ L) :
    V.cell? ⟨g, 0, none⟩ = some x ∧ V.cell? ⟨g, 1, none⟩ = some y ∧ g < V.heap.size := ⟨(cells2 (h.row hx)).1, (cells2 (h.row hx)).2, h.lt hx⟩
theorem Has.put2 {w V : World} {L M : List (Nat × Array Value × TypeId)} {g : Nat} {x y : Value} {t : TypeId} (h : Has w L V) (x' y' : Value) (hL : ∀ b ∈ (g, #[x, y], t) :: M, b ∈ L) (hM : ∀ b ∈ M, b.1 ≠ g) :
    Has w ((g, #[x', y'], t) :: M) ((V.setCell ⟨g, 0, none⟩ x').setCell ⟨g, 1, none⟩ y') := ((h.sub hL).set hM 0 x').set hM 1 y'
theorem Has.put01 {w V : World} {L M : List (Nat × Array Value × TypeId)} {g : Nat} {x y z u : Value} {t : TypeId} (h : Has w L V) (x' y' : Value) (hL : ∀ b ∈ (g, #[x, y, z, u], t) :: M, b ∈ L) (hM : ∀ b ∈ M, b.1 ≠ g) :
    Has w ((g, #[x', y', z, u], t) :: M) ((V.setCell ⟨g, 0, none⟩ x').setCell ⟨g, 1, none⟩ y') := ((h.sub hL).set hM 0 x').set hM 1 y'
theorem Has.put23 {w V : World} {L M : List (Nat × Array Value × TypeId)} {g : Nat} {x y z u : Value} {t : TypeId} (h : Has w L V) (z' u' : Value) (hL : ∀ b ∈ (g, #[x, y, z, u], t) :: M, b ∈ L) (hM : ∀ b ∈ M, b.1 ≠ g) :
    Has w ((g, #[x, y, z', u'], t) :: M) ((V.setCell ⟨g, 2, none⟩ z').setCell ⟨g, 3, none⟩ u') := ((h.sub hL).set hM 2 z').set hM 3 u'
theorem Has.put4 {w V : World} {L M : List (Nat × Array Value × TypeId)} {g : Nat} {x y z u : Value} {t : TypeId} (h : Has w L V) (x' y' z' u' : Value) (hL : ∀ b ∈ (g, #[x, y, z, u], t) :: M, b ∈ L) (hM : ∀ b ∈ M, b.1 ≠ g) :
    Has w ((g, #[x', y', z', u'], t) :: M) ((((V.setCell ⟨g, 0, none⟩ x').setCell ⟨g, 1, none⟩ y').setCell ⟨g, 2, none⟩ z').setCell ⟨g, 3, none⟩ u') := ((((h.sub hL).set hM 0 x').set hM 1 y').set hM 2 z').set hM 3 u'
set_option maxHeartbeats 1000000 in
theorem iwidth_raw (a b c d ev x y z : Int)
    (K : Hid (∀ w : World, Calls Try.prog 14 #[.agg #[.int .i64 a, .int .i64 b, .int .i64 c, .int .i64 d]] w fun e w' => e = .returned (.int .i64 ev) ∧ Below w.heap.size w w'))
    (D : Hid (∀ w : World, Calls Try.prog 35 #[.agg #[.int .i64 c, .int .i64 d], .agg #[.int .i64 a, .int .i64 b]] w fun e w' => e = .returned (.tuple #[.agg #[.int .i64 x, .int .i64 y], .int .i64 z]) ∧ Below w.heap.size w w'))
    (w : World) : Calls Try.prog 12 #[.agg #[.int .i64 a, .int .i64 b, .int .i64 c, .int .i64 d]] w fun e w' => e = .returned (if ev = 0 then .tuple #[.agg #[.int .i64 x, .int .i64 y], .int .i64 z] else .tuple #[.agg #[.int .i64 0, .int .i64 0], .int .i64 1]) ∧ Below w.heap.size w w' := by
  have T0 := Lib.hid (two0 w #[.int .i64 a, .int .i64 b, .int .i64 c, .int .i64 d] #[.int .i64 0, .int .i64 0] 25 23)
  by_cases h1 : ev = 0
  · rw [if_pos h1]
    subst h1
    go_enter Try.func12, Try.ntmps12
    go_wp2_with fail
    with_reducible refine ((K.out) _).mono ?_
    rintro e w1 ⟨rfl, hb⟩
    have T1 := Lib.hid (T0.out.step hb)
    clear hb T0 K
    obtain ⟨x0, x1, x2, x3, x4⟩ := Has.c4 (g := w.heap.size) (x := .int .i64 a) (y := .int .i64 b) (z := .int .i64 c) (u := .int .i64 d) (t := 25) T1.out (by simp)
    go_wp2_with fail
    with_reducible refine ((D.out) _).mono ?_
    rintro e w2 ⟨rfl, hb⟩
    have T2 := Lib.hid (T1.out.step hb)
    clear hb T1 D x0 x1 x2 x3 x4
    obtain ⟨z0, z1, z4⟩ := Has.c2 (g := w.heap.size + 1) (x := .int .i64 0) (y := .int .i64 0) (t := 23) T2.out (by simp)
    obtain ⟨z5, z6⟩ := frozen2 (T2.out.row (b := w.heap.size + 1) (cs := #[.int .i64 0, .int .i64 0]) (t := 23) (by simp))
    have T3 := Lib.hid (Has.put2 (g := w.heap.size + 1) (x := .int .i64 0) (y := .int .i64 0) (t := 23) (M := [(w.heap.size, #[.int .i64 a, .int .i64 b, .int .i64 c, .int .i64 d], 25)]) T2.out (.int .i64 x) (.int .i64 y) (by simp) (by simp <;> omega))
    go_wp2
    refine bodyPost_ret (res_cell_tmp rfl _ _ (w.heap.size + 1) 23 #[.int .i64 x, .int .i64 y] (0, 0) _ rfl (T3.out.row (by simp)) Try.underlying23 rfl info23) rfl ?_
    exact ⟨rfl, T3.out.1⟩
  · rw [if_neg h1]
    go_enter Try.func12, Try.ntmps12
    go_wp2_with fail
    with_reducible refine ((K.out) _).mono ?_
    rintro e w1 ⟨rfl, hb⟩
    have T1 := Lib.hid (T0.out.step hb)
    clear hb T0 K
    obtain ⟨z0, z1, z4⟩ := Has.c2 (g := w.heap.size + 1) (x := .int .i64 0) (y := .int .i64 0) (t := 23) T1.out (by simp)
    obtain ⟨z5, z6⟩ := frozen2 (T1.out.row (b := w.heap.size + 1) (cs := #[.int .i64 0, .int .i64 0]) (t := 23) (by simp))
    have T3 := Lib.hid (Has.put2 (g := w.heap.size + 1) (x := .int .i64 0) (y := .int .i64 0) (t := 23) (M := [(w.heap.size, #[.int .i64 a, .int .i64 b, .int .i64 c, .int .i64 d], 25)]) T1.out (.int .i64 0) (.int .i64 0) (by simp) (by simp <;> omega))
    go_wp2
    refine bodyPost_ret (res_cell_tmp rfl _ _ (w.heap.size + 1) 23 #[.int .i64 0, .int .i64 0] (0, 0) _ rfl (T3.out.row (by simp)) Try.underlying23 rfl info23) rfl ?_
    exact ⟨rfl, T3.out.1⟩
set_option maxHeartbeats 1000000 in
theorem iwidened_raw (a b c d p q m1 m2 a' b' c' d' : Int) (h1 : (m1 < 0 ∧ a' = p ∧ b' = q) ∨ (¬ m1 < 0 ∧ a' = a ∧ b' = b)) (h2 : (0 < m2 ∧ c' = p ∧ d' = q) ∨ (¬ 0 < m2 ∧ c' = c ∧ d' = d))
    (M1 : Hid (∀ w : World, Calls Try.prog 39 #[.agg #[.int .i64 p, .int .i64 q], .agg #[.int .i64 a, .int .i64 b]] w fun e w' => e = .returned (.int .i64 m1) ∧ Below w.heap.size w w'))
    (M2 : Hid (∀ w : World, Calls Try.prog 39 #[.agg #[.int .i64 p, .int .i64 q], .agg #[.int .i64 c, .int .i64 d]] w fun e w' => e = .returned (.int .i64 m2) ∧ Below w.heap.size w w'))
    (w : World) : Calls Try.prog 53 #[.agg #[.int .i64 a, .int .i64 b, .int .i64 c, .int .i64 d], .agg #[.int .i64 p, .int .i64 q]] w fun e w' => e = .returned (.agg #[.int .i64 a', .int .i64 b', .int .i64 c', .int .i64 d']) ∧ Below w.heap.size w w' := by
  have T0 := Lib.hid (three0 w #[.int .i64 a, .int .i64 b, .int .i64 c, .int .i64 d] #[.int .i64 p, .int .i64 q] #[.int .i64 0, .int .i64 0, .int .i64 0, .int .i64 0] 25 23 25)
  rcases h1 with ⟨h1, ha, hb⟩ | ⟨h1, ha, hb⟩
  all_goals subst a' b'
  · rcases h2 with ⟨h2, hc, hd⟩ | ⟨h2, hc, hd⟩
    all_goals subst c' d'
    · go_enter Try.func53, Try.ntmps53
      go_wp2_with fail
      with_reducible refine ((M1.out) _).mono ?_
      rintro e w1 ⟨rfl, hb⟩
      have T1 := Lib.hid (T0.out.step hb)
      clear hb T0 M1
      obtain ⟨x0, x1, x2, x3, x4⟩ := Has.c4 (g := w.heap.size) (x := .int .i64 a) (y := .int .i64 b) (z := .int .i64 c) (u := .int .i64 d) (t := 25) T1.out (by simp)
      obtain ⟨x5, x6, x7, x8⟩ := Has.f4 (g := w.heap.size) (cs := #[.int .i64 a, .int .i64 b, .int .i64 c, .int .i64 d]) (t := 25) T1.out (by simp)
      obtain ⟨v0, v1, v4⟩ := Has.c2 (g := w.heap.size + 1) (x := .int .i64 p) (y := .int .i64 q) (t := 23) T1.out (by simp)
      have T2 := Lib.hid (Has.put01 (g := w.heap.size) (x := .int .i64 a) (y := .int .i64 b) (z := .int .i64 c) (u := .int .i64 d) (t := 25) (M := [(w.heap.size + 1 + 1, #[.int .i64 0, .int .i64 0, .int .i64 0, .int .i64 0], 25), (w.heap.size + 1, #[.int .i64 p, .int .i64 q], 23)]) T1.out (.int .i64 p) (.int .i64 q) (by simp) (by simp; omega))
      go_upto_region 3 with fail
      generalize (w1.setCell ⟨w.heap.size, 0, none⟩ (.int .i64 p)).setCell ⟨w.heap.size, 1, none⟩ (.int .i64 q) = y1 at *
      clear T1 x0 x1 x2 x3 x4 x5 x6 x7 x8 v0 v1 v4
      obtain ⟨x0, x1, x2, x3, x4⟩ := Has.c4 (g := w.heap.size) (x := .int .i64 p) (y := .int .i64 q) (z := .int .i64 c) (u := .int .i64 d) (t := 25) T2.out (by simp)
      obtain ⟨x5, x6, x7, x8⟩ := Has.f4 (g := w.heap.size) (cs := #[.int .i64 p, .int .i64 q, .int .i64 c, .int .i64 d]) (t := 25) T2.out (by simp)
      obtain ⟨v0, v1, v4⟩ := Has.c2 (g := w.heap.size + 1) (x := .int .i64 p) (y := .int .i64 q) (t := 23) T2.out (by simp)
      go_wp2_with fail
      with_reducible refine ((M2.out) _).mono ?_
      rintro e w3 ⟨rfl, hb⟩
      have T3 := Lib.hid (T2.out.step hb)
      clear hb T2 M2 x0 x1 x2 x3 x4 x5 x6 x7 x8 v0 v1 v4
      obtain ⟨x0, x1, x2, x3, x4⟩ := Has.c4 (g := w.heap.size) (x := .int .i64 p) (y := .int .i64 q) (z := .int .i64 c) (u := .int .i64 d) (t := 25) T3.out (by simp)
      obtain ⟨x5, x6, x7, x8⟩ := Has.f4 (g := w.heap.size) (cs := #[.int .i64 p, .int .i64 q, .int .i64 c, .int .i64 d]) (t := 25) T3.out (by simp)
      obtain ⟨v0, v1, v4⟩ := Has.c2 (g := w.heap.size + 1) (x := .int .i64 p) (y := .int .i64 q) (t := 23) T3.out (by simp)
      have T4 := Lib.hid (Has.put23 (g := w.heap.size) (x := .int .i64 p) (y := .int .i64 q) (z := .int .i64 c) (u := .int .i64 d) (t := 25) (M := [(w.heap.size + 1 + 1, #[.int .i64 0, .int .i64 0, .int .i64 0, .int .i64 0], 25), (w.heap.size + 1, #[.int .i64 p, .int .i64 q], 23)]) T3.out (.int .i64 p) (.int .i64 q) (by simp) (by simp; omega))
      go_upto_region 5 with fail
      generalize (w3.setCell ⟨w.heap.size, 2, none⟩ (.int .i64 p)).setCell ⟨w.heap.size, 3, none⟩ (.int .i64 q) = y3 at *
      clear T3 x0 x1 x2 x3 x4 x5 x6 x7 x8 v0 v1 v4
      obtain ⟨x0, x1, x2, x3, x4⟩ := Has.c4 (g := w.heap.size) (x := .int .i64 p) (y := .int .i64 q) (z := .int .i64 p) (u := .int .i64 q) (t := 25) T4.out (by simp)
      obtain ⟨z0, z1, z2, z3, z4⟩ := Has.c4 (g := w.heap.size + 1 + 1) (x := .int .i64 0) (y := .int .i64 0) (z := .int .i64 0) (u := .int .i64 0) (t := 25) T4.out (by simp)
      obtain ⟨z5, z6, z7, z8⟩ := Has.f4 (g := w.heap.size + 1 + 1) (cs := #[.int .i64 0, .int .i64 0, .int .i64 0, .int .i64 0]) (t := 25) T4.out (by simp)
      have T5 := Lib.hid (Has.put4 (g := w.heap.size + 1 + 1) (x := .int .i64 0) (y := .int .i64 0) (z := .int .i64 0) (u := .int .i64 0) (t := 25) (M := [(w.heap.size, #[.int .i64 p, .int .i64 q, .int .i64 p, .int .i64 q], 25)]) T4.out (.int .i64 p) (.int .i64 q) (.int .i64 p) (.int .i64 q) (by simp) (by simp <;> omega))
      go_wp2
      refine bodyPost_ret (results_cell_row rfl _ _ (w.heap.size + 1 + 1) 25 #[.int .i64 p, .int .i64 q, .int .i64 p, .int .i64 q] (0, 0) _ rfl (T5.out.row (by simp)) Try.underlying25 rfl info25) rfl ?_
      exact ⟨rfl, T5.out.1⟩
    · go_enter Try.func53, Try.ntmps53
      go_wp2_with fail
      with_reducible refine ((M1.out) _).mono ?_
      rintro e w1 ⟨rfl, hb⟩
      have T1 := Lib.hid (T0.out.step hb)
      clear hb T0 M1
      obtain ⟨x0, x1, x2, x3, x4⟩ := Has.c4 (g := w.heap.size) (x := .int .i64 a) (y := .int .i64 b) (z := .int .i64 c) (u := .int .i64 d) (t := 25) T1.out (by simp)
      obtain ⟨x5, x6, x7, x8⟩ := Has.f4 (g := w.heap.size) (cs := #[.int .i64 a, .int .i64 b, .int .i64 c, .int .i64 d]) (t := 25) T1.out (by simp)
      obtain ⟨v0, v1, v4⟩ := Has.c2 (g := w.heap.size + 1) (x := .int .i64 p) (y := .int .i64 q) (t := 23) T1.out (by simp)
      have T2 := Lib.hid (Has.put01 (g := w.heap.size) (x := .int .i64 a) (y := .int .i64 b) (z := .int .i64 c) (u := .int .i64 d) (t := 25) (M := [(w.heap.size + 1 + 1, #[.int .i64 0, .int .i64 0, .int .i64 0, .int .i64 0], 25), (w.heap.size + 1, #[.int .i64 p, .int .i64 q], 23)]) T1.out (.int .i64 p) (.int .i64 q) (by simp) (by simp; omega))
      go_upto_region 3 with fail
      generalize (w1.setCell ⟨w.heap.size, 0, none⟩ (.int .i64 p)).setCell ⟨w.heap.size, 1, none⟩ (.int .i64 q) = y1 at *
      clear T1 x0 x1 x2 x3 x4 x5 x6 x7 x8 v0 v1 v4
      obtain ⟨x0, x1, x2, x3, x4⟩ := Has.c4 (g := w.heap.size) (x := .int .i64 p) (y := .int .i64 q) (z := .int .i64 c) (u := .int .i64 d) (t := 25) T2.out (by simp)
      obtain ⟨x5, x6, x7, x8⟩ := Has.f4 (g := w.heap.size) (cs := #[.int .i64 p, .int .i64 q, .int .i64 c, .int .i64 d]) (t := 25) T2.out (by simp)
      obtain ⟨v0, v1, v4⟩ := Has.c2 (g := w.heap.size + 1) (x := .int .i64 p) (y := .int .i64 q) (t := 23) T2.out (by simp)
      go_wp2_with fail
      with_reducible refine ((M2.out) _).mono ?_
      rintro e w3 ⟨rfl, hb⟩
      have T3 := Lib.hid (T2.out.step hb)
      clear hb T2 M2 x0 x1 x2 x3 x4 x5 x6 x7 x8 v0 v1 v4
      obtain ⟨x0, x1, x2, x3, x4⟩ := Has.c4 (g := w.heap.size) (x := .int .i64 p) (y := .int .i64 q) (z := .int .i64 c) (u := .int .i64 d) (t := 25) T3.out (by simp)
      obtain ⟨x5, x6, x7, x8⟩ := Has.f4 (g := w.heap.size) (cs := #[.int .i64 p, .int .i64 q, .int .i64 c, .int .i64 d]) (t := 25) T3.out (by simp)
      obtain ⟨v0, v1, v4⟩ := Has.c2 (g := w.heap.size + 1) (x := .int .i64 p) (y := .int .i64 q) (t := 23) T3.out (by simp)
      obtain ⟨z0, z1, z2, z3, z4⟩ := Has.c4 (g := w.heap.size + 1 + 1) (x := .int .i64 0) (y := .int .i64 0) (z := .int .i64 0) (u := .int .i64 0) (t := 25) T3.out (by simp)
      obtain ⟨z5, z6, z7, z8⟩ := Has.f4 (g := w.heap.size + 1 + 1) (cs := #[.int .i64 0, .int .i64 0, .int .i64 0, .int .i64 0]) (t := 25) T3.out (by simp)
      have T5 := Lib.hid (Has.put4 (g := w.heap.size + 1 + 1) (x := .int .i64 0) (y := .int .i64 0) (z := .int .i64 0) (u := .int .i64 0) (t := 25) (M := [(w.heap.size, #[.int .i64 p, .int .i64 q, .int .i64 c, .int .i64 d], 25)]) T3.out (.int .i64 p) (.int .i64 q) (.int .i64 c) (.int .i64 d) (by simp) (by simp <;> omega))
      go_wp2
      refine bodyPost_ret (results_cell_row rfl _ _ (w.heap.size + 1 + 1) 25 #[.int .i64 p, .int .i64 q, .int .i64 c, .int .i64 d] (0, 0) _ rfl (T5.out.row (by simp)) Try.underlying25 rfl info25) rfl ?_
      exact ⟨rfl, T5.out.1⟩
  · rcases h2 with ⟨h2, hc, hd⟩ | ⟨h2, hc, hd⟩
    all_goals subst c' d'
    · go_enter Try.func53, Try.ntmps53
      go_wp2_with fail
      with_reducible refine ((M1.out) _).mono ?_
      rintro e w1 ⟨rfl, hb⟩
      have T1 := Lib.hid (T0.out.step hb)
      clear hb T0 M1
      obtain ⟨x0, x1, x2, x3, x4⟩ := Has.c4 (g := w.heap.size) (x := .int .i64 a) (y := .int .i64 b) (z := .int .i64 c) (u := .int .i64 d) (t := 25) T1.out (by simp)
      obtain ⟨x5, x6, x7, x8⟩ := Has.f4 (g := w.heap.size) (cs := #[.int .i64 a, .int .i64 b, .int .i64 c, .int .i64 d]) (t := 25) T1.out (by simp)
      obtain ⟨v0, v1, v4⟩ := Has.c2 (g := w.heap.size + 1) (x := .int .i64 p) (y := .int .i64 q) (t := 23) T1.out (by simp)
      go_wp2_with fail
      with_reducible refine ((M2.out) _).mono ?_
      rintro e w3 ⟨rfl, hb⟩
      have T3 := Lib.hid (T1.out.step hb)
      clear hb T1 M2 x0 x1 x2 x3 x4 x5 x6 x7 x8 v0 v1 v4
      obtain ⟨x0, x1, x2, x3, x4⟩ := Has.c4 (g := w.heap.size) (x := .int .i64 a) (y := .int .i64 b) (z := .int .i64 c) (u := .int .i64 d) (t := 25) T3.out (by simp)
      obtain ⟨x5, x6, x7, x8⟩ := Has.f4 (g := w.heap.size) (cs := #[.int .i64 a, .int .i64 b, .int .i64 c, .int .i64 d]) (t := 25) T3.out (by simp)
      obtain ⟨v0, v1, v4⟩ := Has.c2 (g := w.heap.size + 1) (x := .int .i64 p) (y := .int .i64 q) (t := 23) T3.out (by simp)
      have T4 := Lib.hid (Has.put23 (g := w.heap.size) (x := .int .i64 a) (y := .int .i64 b) (z := .int .i64 c) (u := .int .i64 d) (t := 25) (M := [(w.heap.size + 1 + 1, #[.int .i64 0, .int .i64 0, .int .i64 0, .int .i64 0], 25), (w.heap.size + 1, #[.int .i64 p, .int .i64 q], 23)]) T3.out (.int .i64 p) (.int .i64 q) (by simp) (by simp; omega))
      go_upto_region 5 with fail
      generalize (w3.setCell ⟨w.heap.size, 2, none⟩ (.int .i64 p)).setCell ⟨w.heap.size, 3, none⟩ (.int .i64 q) = y3 at *
      clear T3 x0 x1 x2 x3 x4 x5 x6 x7 x8 v0 v1 v4
      obtain ⟨x0, x1, x2, x3, x4⟩ := Has.c4 (g := w.heap.size) (x := .int .i64 a) (y := .int .i64 b) (z := .int .i64 p) (u := .int .i64 q) (t := 25) T4.out (by simp)
      obtain ⟨z0, z1, z2, z3, z4⟩ := Has.c4 (g := w.heap.size + 1 + 1) (x := .int .i64 0) (y := .int .i64 0) (z := .int .i64 0) (u := .int .i64 0) (t := 25) T4.out (by simp)
      obtain ⟨z5, z6, z7, z8⟩ := Has.f4 (g := w.heap.size + 1 + 1) (cs := #[.int .i64 0, .int .i64 0, .int .i64 0, .int .i64 0]) (t := 25) T4.out (by simp)
      have T5 := Lib.hid (Has.put4 (g := w.heap.size + 1 + 1) (x := .int .i64 0) (y := .int .i64 0) (z := .int .i64 0) (u := .int .i64 0) (t := 25) (M := [(w.heap.size, #[.int .i64 a, .int .i64 b, .int .i64 p, .int .i64 q], 25)]) T4.out (.int .i64 a) (.int .i64 b) (.int .i64 p) (.int .i64 q) (by simp) (by simp <;> omega))
      go_wp2
      refine bodyPost_ret (results_cell_row rfl _ _ (w.heap.size + 1 + 1) 25 #[.int .i64 a, .int .i64 b, .int .i64 p, .int .i64 q] (0, 0) _ rfl (T5.out.row (by simp)) Try.underlying25 rfl info25) rfl ?_
      exact ⟨rfl, T5.out.1⟩
    · go_enter Try.func53, Try.ntmps53
      go_wp2_with fail
      with_reducible refine ((M1.out) _).mono ?_
      rintro e w1 ⟨rfl, hb⟩
      have T1 := Lib.hid (T0.out.step hb)
      clear hb T0 M1
      obtain ⟨x0, x1, x2, x3, x4⟩ := Has.c4 (g := w.heap.size) (x := .int .i64 a) (y := .int .i64 b) (z := .int .i64 c) (u := .int .i64 d) (t := 25) T1.out (by simp)
      obtain ⟨x5, x6, x7, x8⟩ := Has.f4 (g := w.heap.size) (cs := #[.int .i64 a, .int .i64 b, .int .i64 c, .int .i64 d]) (t := 25) T1.out (by simp)
      obtain ⟨v0, v1, v4⟩ := Has.c2 (g := w.heap.size + 1) (x := .int .i64 p) (y := .int .i64 q) (t := 23) T1.out (by simp)
      go_wp2_with fail
      with_reducible refine ((M2.out) _).mono ?_
      rintro e w3 ⟨rfl, hb⟩
      have T3 := Lib.hid (T1.out.step hb)
      clear hb T1 M2 x0 x1 x2 x3 x4 x5 x6 x7 x8 v0 v1 v4
      obtain ⟨x0, x1, x2, x3, x4⟩ := Has.c4 (g := w.heap.size) (x := .int .i64 a) (y := .int .i64 b) (z := .int .i64 c) (u := .int .i64 d) (t := 25) T3.out (by simp)
      obtain ⟨x5, x6, x7, x8⟩ := Has.f4 (g := w.heap.size) (cs := #[.int .i64 a, .int .i64 b, .int .i64 c, .int .i64 d]) (t := 25) T3.out (by simp)
      obtain ⟨v0, v1, v4⟩ := Has.c2 (g := w.heap.size + 1) (x := .int .i64 p) (y := .int .i64 q) (t := 23) T3.out (by simp)
      obtain ⟨z0, z1, z2, z3, z4⟩ := Has.c4 (g := w.heap.size + 1 + 1) (x := .int .i64 0) (y := .int .i64 0) (z := .int .i64 0) (u := .int .i64 0) (t := 25) T3.out (by simp)
      obtain ⟨z5, z6, z7, z8⟩ := Has.f4 (g := w.heap.size + 1 + 1) (cs := #[.int .i64 0, .int .i64 0, .int .i64 0, .int .i64 0]) (t := 25) T3.out (by simp)
      have T5 := Lib.hid (Has.put4 (g := w.heap.size + 1 + 1) (x := .int .i64 0) (y := .int .i64 0) (z := .int .i64 0) (u := .int .i64 0) (t := 25) (M := [(w.heap.size, #[.int .i64 a, .int .i64 b, .int .i64 c, .int .i64 d], 25)]) T3.out (.int .i64 a) (.int .i64 b) (.int .i64 c) (.int .i64 d) (by simp) (by simp <;> omega))
      go_wp2
      refine bodyPost_ret (results_cell_row rfl _ _ (w.heap.size + 1 + 1) 25 #[.int .i64 a, .int .i64 b, .int .i64 c, .int .i64 d] (0, 0) _ rfl (T5.out.row (by simp)) Try.underlying25 rfl info25) rfl ?_
      exact ⟨rfl, T5.out.1⟩
end Go.Proofs.Ytbiegbnncnjnmaa.Iv
namespace Go.Proofs.Ytbiegbnncnjnmaa.Iv
open Go.RowKit
open Go.Proofs.Ytbiegbnncnjnmaa.Pro

set_option maxHeartbeats 1000000 in
theorem ilesser_raw (a b p q m : Int)
    (M : Hid (∀ w : World, Calls Try.prog 39 #[.agg #[.int .i64 a, .int .i64 b], .agg #[.int .i64 p, .int .i64 q]] w fun e w' => e = .returned (.int .i64 m) ∧ Below w.heap.size w w'))
    (w : World) : Calls Try.prog 54 #[.agg #[.int .i64 a, .int .i64 b], .agg #[.int .i64 p, .int .i64 q]] w fun e w' => e = .returned (.agg #[.int .i64 (if m ≤ 0 then a else p), .int .i64 (if m ≤ 0 then b else q)]) ∧ Below w.heap.size w w' := by
  have T0 := Lib.hid (three0 w #[.int .i64 a, .int .i64 b] #[.int .i64 p, .int .i64 q] #[.int .i64 0, .int .i64 0] 23 23 23)
  by_cases h1 : m ≤ 0
  · rw [if_pos h1, if_pos h1]
    go_enter Try.func54, Try.ntmps54
    go_wp2_with fail
    with_reducible refine ((M.out) _).mono ?_
    rintro e w1 ⟨rfl, hb⟩
    have T1 := Lib.hid (T0.out.step hb)
    clear hb T0 M
    obtain ⟨x0, x1, x4⟩ := Has.c2 (g := w.heap.size) (x := .int .i64 a) (y := .int .i64 b) (t := 23) T1.out (by simp)
    obtain ⟨y0, y1, y4⟩ := Has.c2 (g := w.heap.size + 1) (x := .int .i64 p) (y := .int .i64 q) (t := 23) T1.out (by simp)
    obtain ⟨z0, z1, z4⟩ := Has.c2 (g := w.heap.size + 1 + 1) (x := .int .i64 0) (y := .int .i64 0) (t := 23) T1.out (by simp)
    obtain ⟨z5, z6⟩ := frozen2 (T1.out.row (b := w.heap.size + 1 + 1) (cs := #[.int .i64 0, .int .i64 0]) (t := 23) (by simp))
    have T2 := Lib.hid (Has.put2 (g := w.heap.size + 1 + 1) (x := .int .i64 0) (y := .int .i64 0) (t := 23) (M := [(w.heap.size, #[.int .i64 a, .int .i64 b], 23)]) T1.out (.int .i64 a) (.int .i64 b) (by simp) (by simp <;> omega))
    go_wp2
    refine bodyPost_ret (results_cell_row rfl _ _ (w.heap.size + 1 + 1) 23 #[.int .i64 a, .int .i64 b] (0, 0) _ rfl (T2.out.row (by simp)) Try.underlying23 rfl info23) rfl ?_
    exact ⟨rfl, T2.out.1⟩
  · rw [if_neg h1, if_neg h1]
    go_enter Try.func54, Try.ntmps54
    go_wp2_with fail
    with_reducible refine ((M.out) _).mono ?_
    rintro e w1 ⟨rfl, hb⟩
    have T1 := Lib.hid (T0.out.step hb)
    clear hb T0 M
    obtain ⟨x0, x1, x4⟩ := Has.c2 (g := w.heap.size) (x := .int .i64 a) (y := .int .i64 b) (t := 23) T1.out (by simp)
    obtain ⟨y0, y1, y4⟩ := Has.c2 (g := w.heap.size + 1) (x := .int .i64 p) (y := .int .i64 q) (t := 23) T1.out (by simp)
    obtain ⟨z0, z1, z4⟩ := Has.c2 (g := w.heap.size + 1 + 1) (x := .int .i64 0) (y := .int .i64 0) (t := 23) T1.out (by simp)
    obtain ⟨z5, z6⟩ := frozen2 (T1.out.row (b := w.heap.size + 1 + 1) (cs := #[.int .i64 0, .int .i64 0]) (t := 23) (by simp))
    have T2 := Lib.hid (Has.put2 (g := w.heap.size + 1 + 1) (x := .int .i64 0) (y := .int .i64 0) (t := 23) (M := [(w.heap.size, #[.int .i64 a, .int .i64 b], 23)]) T1.out (.int .i64 p) (.int .i64 q) (by simp) (by simp <;> omega))
    go_wp2
    refine bodyPost_ret (results_cell_row rfl _ _ (w.heap.size + 1 + 1) 23 #[.int .i64 p, .int .i64 q] (0, 0) _ rfl (T2.out.row (by simp)) Try.underlying23 rfl info23) rfl ?_
    exact ⟨rfl, T2.out.1⟩
set_option maxHeartbeats 1000000 in
theorem igreater_raw (a b p q m : Int)
    (M : Hid (∀ w : World, Calls Try.prog 39 #[.agg #[.int .i64 a, .int .i64 b], .agg #[.int .i64 p, .int .i64 q]] w fun e w' => e = .returned (.int .i64 m) ∧ Below w.heap.size w w'))
    (w : World) : Calls Try.prog 55 #[.agg #[.int .i64 a, .int .i64 b], .agg #[.int .i64 p, .int .i64 q]] w fun e w' => e = .returned (.agg #[.int .i64 (if 0 ≤ m then a else p), .int .i64 (if 0 ≤ m then b else q)]) ∧ Below w.heap.size w w' := by
  have T0 := Lib.hid (three0 w #[.int .i64 a, .int .i64 b] #[.int .i64 p, .int .i64 q] #[.int .i64 0, .int .i64 0] 23 23 23)
  by_cases h1 : 0 ≤ m
  · rw [if_pos h1, if_pos h1]
    go_enter Try.func55, Try.ntmps55
    go_wp2_with fail
    with_reducible refine ((M.out) _).mono ?_
    rintro e w1 ⟨rfl, hb⟩
    have T1 := Lib.hid (T0.out.step hb)
    clear hb T0 M
    obtain ⟨x0, x1, x4⟩ := Has.c2 (g := w.heap.size) (x := .int .i64 a) (y := .int .i64 b) (t := 23) T1.out (by simp)
    obtain ⟨y0, y1, y4⟩ := Has.c2 (g := w.heap.size + 1) (x := .int .i64 p) (y := .int .i64 q) (t := 23) T1.out (by simp)
    obtain ⟨z0, z1, z4⟩ := Has.c2 (g := w.heap.size + 1 + 1) (x := .int .i64 0) (y := .int .i64 0) (t := 23) T1.out (by simp)
    obtain ⟨z5, z6⟩ := frozen2 (T1.out.row (b := w.heap.size + 1 + 1) (cs := #[.int .i64 0, .int .i64 0]) (t := 23) (by simp))
    have T2 := Lib.hid (Has.put2 (g := w.heap.size + 1 + 1) (x := .int .i64 0) (y := .int .i64 0) (t := 23) (M := [(w.heap.size, #[.int .i64 a, .int .i64 b], 23)]) T1.out (.int .i64 a) (.int .i64 b) (by simp) (by simp <;> omega))
    go_wp2
    refine bodyPost_ret (results_cell_row rfl _ _ (w.heap.size + 1 + 1) 23 #[.int .i64 a, .int .i64 b] (0, 0) _ rfl (T2.out.row (by simp)) Try.underlying23 rfl info23) rfl ?_
    exact ⟨rfl, T2.out.1⟩
  · rw [if_neg h1, if_neg h1]
    go_enter Try.func55, Try.ntmps55
    go_wp2_with fail
    with_reducible refine ((M.out) _).mono ?_
    rintro e w1 ⟨rfl, hb⟩
    have T1 := Lib.hid (T0.out.step hb)
    clear hb T0 M
    obtain ⟨x0, x1, x4⟩ := Has.c2 (g := w.heap.size) (x := .int .i64 a) (y := .int .i64 b) (t := 23) T1.out (by simp)
    obtain ⟨y0, y1, y4⟩ := Has.c2 (g := w.heap.size + 1) (x := .int .i64 p) (y := .int .i64 q) (t := 23) T1.out (by simp)
    obtain ⟨z0, z1, z4⟩ := Has.c2 (g := w.heap.size + 1 + 1) (x := .int .i64 0) (y := .int .i64 0) (t := 23) T1.out (by simp)
    obtain ⟨z5, z6⟩ := frozen2 (T1.out.row (b := w.heap.size + 1 + 1) (cs := #[.int .i64 0, .int .i64 0]) (t := 23) (by simp))
    have T2 := Lib.hid (Has.put2 (g := w.heap.size + 1 + 1) (x := .int .i64 0) (y := .int .i64 0) (t := 23) (M := [(w.heap.size, #[.int .i64 a, .int .i64 b], 23)]) T1.out (.int .i64 p) (.int .i64 q) (by simp) (by simp <;> omega))
    go_wp2
    refine bodyPost_ret (results_cell_row rfl _ _ (w.heap.size + 1 + 1) 23 #[.int .i64 p, .int .i64 q] (0, 0) _ rfl (T2.out.row (by simp)) Try.underlying23 rfl info23) rfl ?_
    exact ⟨rfl, T2.out.1⟩
/-- Both arguments stand. -/
structure XY (w : World) (a b c d p q r s : Int) (V : World) : Prop where
  has : Has w [(w.heap.size, #[.int .i64 a, .int .i64 b, .int .i64 c, .int .i64 d], 25), (w.heap.size + 1, #[.int .i64 p, .int .i64 q, .int .i64 r, .int .i64 s], 25)] V
theorem XY.all {w V : World} {a b c d p q r s : Int} (h : XY w a b c d p q r s V) : XY w a b c d p q r s V ∧ (V.cell? ⟨w.heap.size, 0, none⟩ = some (.int .i64 a) ∧ V.cell? ⟨w.heap.size, 1, none⟩ = some (.int .i64 b) ∧ V.cell? ⟨w.heap.size, 2, none⟩ = some (.int .i64 c) ∧ V.cell? ⟨w.heap.size, 3, none⟩ = some (.int .i64 d)) ∧
    V.cell? ⟨w.heap.size + 1, 0, none⟩ = some (.int .i64 p) ∧ V.cell? ⟨w.heap.size + 1, 1, none⟩ = some (.int .i64 q) ∧ V.cell? ⟨w.heap.size + 1, 2, none⟩ = some (.int .i64 r) ∧ V.cell? ⟨w.heap.size + 1, 3, none⟩ = some (.int .i64 s) :=
  have h1 := Has.c4 (g := w.heap.size) (x := .int .i64 a) (y := .int .i64 b) (z := .int .i64 c) (u := .int .i64 d) (t := 25) h.has (by simp)
  have h2 := Has.c4 (g := w.heap.size + 1) (x := .int .i64 p) (y := .int .i64 q) (z := .int .i64 r) (u := .int .i64 s) (t := 25) h.has (by simp)
  ⟨h, ⟨h1.1, h1.2.1, h1.2.2.1, h1.2.2.2.1⟩, h2.1, h2.2.1, h2.2.2.1, h2.2.2.2.1⟩
theorem Has.xy {w V : World} {a b c d p q r s : Int} {L : List (Nat × Array Value × TypeId)} (h : Has w L V) (hL : ∀ x ∈ [(w.heap.size, #[.int .i64 a, .int .i64 b, .int .i64 c, .int .i64 d], 25), (w.heap.size + 1, #[.int .i64 p, .int .i64 q, .int .i64 r, .int .i64 s], 25)], x ∈ L) : XY w a b c d p q r s V := ⟨h.sub hL⟩
set_option maxHeartbeats 1000000 in
theorem imin_raw (a b c d p q r s x y z u : Int) (v : Bool)
    (V : Hid (∀ w : World, Calls Try.prog 41 #[.agg #[.int .i64 a, .int .i64 b, .int .i64 c, .int .i64 d], .agg #[.int .i64 p, .int .i64 q, .int .i64 r, .int .i64 s]] w fun e w' => e = .returned (.bool v) ∧ Below w.heap.size w w'))
    (M1 : Hid (∀ w : World, Calls Try.prog 54 #[.agg #[.int .i64 a, .int .i64 b], .agg #[.int .i64 p, .int .i64 q]] w fun e w' => e = .returned (.agg #[.int .i64 x, .int .i64 y]) ∧ Below w.heap.size w w'))
    (M2 : Hid (∀ w : World, Calls Try.prog 54 #[.agg #[.int .i64 c, .int .i64 d], .agg #[.int .i64 r, .int .i64 s]] w fun e w' => e = .returned (.agg #[.int .i64 z, .int .i64 u]) ∧ Below w.heap.size w w'))
    (w : World) : Calls Try.prog 25 #[.agg #[.int .i64 a, .int .i64 b, .int .i64 c, .int .i64 d], .agg #[.int .i64 p, .int .i64 q, .int .i64 r, .int .i64 s]] w fun e w' => e = .returned (if v = true then .agg #[.int .i64 x, .int .i64 y, .int .i64 z, .int .i64 u] else .agg #[.int .i64 0, .int .i64 0, .int .i64 0, .int .i64 0]) ∧ Below w.heap.size w w' := by
  have T0 := Lib.hid (three0 w #[.int .i64 a, .int .i64 b, .int .i64 c, .int .i64 d] #[.int .i64 p, .int .i64 q, .int .i64 r, .int .i64 s] #[.int .i64 0, .int .i64 0, .int .i64 0, .int .i64 0] 25 25 25)
  cases v with
  | false =>
    rw [if_neg (by decide)]
    go_enter Try.func25, Try.ntmps25
    go_wp2_with fail
    with_reducible refine ((V.out) _).mono ?_
    rintro e w1 ⟨rfl, hb⟩
    have T1 := Lib.hid (T0.out.step hb)
    clear hb T0 V
    obtain ⟨k0, k1, k2, k3, k4⟩ := Has.c4 (g := w.heap.size + 1 + 1) (x := .int .i64 0) (y := .int .i64 0) (z := .int .i64 0) (u := .int .i64 0) (t := 25) T1.out (by simp)
    obtain ⟨k5, k6, k7, k8⟩ := Has.f4 (g := w.heap.size + 1 + 1) (cs := #[.int .i64 0, .int .i64 0, .int .i64 0, .int .i64 0]) (t := 25) T1.out (by simp)
    have T2 := Lib.hid (Has.put4 (g := w.heap.size + 1 + 1) (x := .int .i64 0) (y := .int .i64 0) (z := .int .i64 0) (u := .int .i64 0) (t := 25) (M := [(w.heap.size, #[.int .i64 a, .int .i64 b, .int .i64 c, .int .i64 d], 25)]) T1.out (.int .i64 0) (.int .i64 0) (.int .i64 0) (.int .i64 0) (by simp) (by simp <;> omega))
    go_wp2
    refine bodyPost_ret (results_cell_row rfl _ _ (w.heap.size + 1 + 1) 25 #[.int .i64 0, .int .i64 0, .int .i64 0, .int .i64 0] (0, 0) _ rfl (T2.out.row (by simp)) Try.underlying25 rfl info25) rfl ?_
    exact ⟨rfl, T2.out.1⟩
  | true =>
    rw [if_pos rfl]
    go_enter Try.func25, Try.ntmps25
    go_wp2_with fail
    with_reducible refine ((V.out) _).mono ?_
    rintro e w1 ⟨rfl, hb⟩
    have T1 := Lib.hid (T0.out.step hb)
    clear hb T0 V
    go_upto_region 3 with fail
    have TD := Lib.hid T1.out.drew
    refine wp_region_held_drew (S := (fun V => XY w a b c d p q r s V ∧ (V.cell? ⟨w.heap.size, 0, none⟩ = some (.int .i64 a) ∧ V.cell? ⟨w.heap.size, 1, none⟩ = some (.int .i64 b) ∧ V.cell? ⟨w.heap.size, 2, none⟩ = some (.int .i64 c) ∧ V.cell? ⟨w.heap.size, 3, none⟩ = some (.int .i64 d)) ∧ V.cell? ⟨w.heap.size + 1, 0, none⟩ = some (.int .i64 p) ∧ V.cell? ⟨w.heap.size + 1, 1, none⟩ = some (.int .i64 q) ∧ V.cell? ⟨w.heap.size + 1, 2, none⟩ = some (.int .i64 r) ∧ V.cell? ⟨w.heap.size + 1, 3, none⟩ = some (.int .i64 s))) (by kernel_rfl) (XY.all (Has.xy TD.out (by simp))) (fun hHeld => ?_)
    refine wpAnyH_take (i := 0) (v := _) rfl (by kernel_rfl) (by kernel_rfl) (by kernel_rfl) (fun _ _ _ h => h) (Or.inl ⟨by rfl, by intro w hSw; (try dsimp only at hSw); go_simp; try (with_reducible rfl)⟩) (by assumption) ?_
    try simp only [Act.put, List.setIfInBounds_toArray, List.set_cons_zero, List.set_cons_succ]
    refine wpAnyH_take (i := 1) (v := _) rfl (by kernel_rfl) (by kernel_rfl) (by kernel_rfl) (fun _ _ _ h => h) (Or.inl ⟨by rfl, by intro w hSw; (try dsimp only at hSw); go_simp; try (with_reducible rfl)⟩) (by assumption) ?_
    try simp only [Act.put, List.setIfInBounds_toArray, List.set_cons_zero, List.set_cons_succ]
    refine wpAnyH_take (i := 2) (v := _) rfl (by kernel_rfl) (by kernel_rfl) (by kernel_rfl) (fun _ _ _ h => h) (Or.inl ⟨by rfl, by intro w hSw; (try dsimp only at hSw); go_simp; try (with_reducible rfl)⟩) (by assumption) ?_
    try simp only [Act.put, List.setIfInBounds_toArray, List.set_cons_zero, List.set_cons_succ]
    refine wpAnyH_take (i := 3) (v := _) rfl (by kernel_rfl) (by kernel_rfl) (by kernel_rfl) (fun _ _ _ h => h) (Or.inl ⟨by rfl, by intro w hSw; (try dsimp only at hSw); go_simp; try (with_reducible rfl)⟩) (by assumption) ?_
    try simp only [Act.put, List.setIfInBounds_toArray, List.set_cons_zero, List.set_cons_succ]
    refine wpAnyH_take (i := 5) (v := _) rfl (by kernel_rfl) (by kernel_rfl) (by kernel_rfl) (fun _ _ _ h => h) (Or.inl ⟨by rfl, by intro w hSw; (try dsimp only at hSw); go_simp; try (with_reducible rfl)⟩) (by assumption) ?_
    try simp only [Act.put, List.setIfInBounds_toArray, List.set_cons_zero, List.set_cons_succ]
    refine wpAnyH_take (i := 6) (v := _) rfl (by kernel_rfl) (by kernel_rfl) (by kernel_rfl) (fun _ _ _ h => h) (Or.inl ⟨by rfl, by intro w hSw; (try dsimp only at hSw); go_simp; try (with_reducible rfl)⟩) (by assumption) ?_
    try simp only [Act.put, List.setIfInBounds_toArray, List.set_cons_zero, List.set_cons_succ]
    refine wpAnyH_take (i := 7) (v := _) rfl (by kernel_rfl) (by kernel_rfl) (by kernel_rfl) (fun _ _ _ h => h) (Or.inl ⟨by rfl, by intro w hSw; (try dsimp only at hSw); go_simp; try (with_reducible rfl)⟩) (by assumption) ?_
    try simp only [Act.put, List.setIfInBounds_toArray, List.set_cons_zero, List.set_cons_succ]
    refine wpAnyH_take (i := 8) (v := _) rfl (by kernel_rfl) (by kernel_rfl) (by kernel_rfl) (fun _ _ _ h => h) (Or.inl ⟨by rfl, by intro w hSw; (try dsimp only at hSw); go_simp; try (with_reducible rfl)⟩) (by assumption) ?_
    try simp only [Act.put, List.setIfInBounds_toArray, List.set_cons_zero, List.set_cons_succ]
    refine wpAnyH_ready (rs := [4]) (by kernel_rfl) (by simp) ?_
    refine AllReadyH.cons rfl (fun K hK => ?_) AllReadyH.nil
    go_simp
    go_at_call 54
    with_reducible refine Calls.mono (M1.out _) ?_
    rintro e w2 ⟨rfl, hb⟩
    have F1 := Lib.hid (TD.out.step hb)
    clear hb 
    refine hK.out _ _ (XY.all (Has.xy F1.out (by simp))) (fun hHeld => ?_)
    clear hK K
    try simp only [Act.put, List.setIfInBounds_toArray, List.set_cons_zero, List.set_cons_succ]
    refine wpAnyH_ready (rs := [9]) (by kernel_rfl) (by simp) ?_
    refine AllReadyH.cons rfl (fun K hK => ?_) AllReadyH.nil
    go_simp
    go_at_call 54
    with_reducible refine Calls.mono (M2.out _) ?_
    rintro e w3 ⟨rfl, hb⟩
    have F2 := Lib.hid (F1.out.step hb)
    clear hb 
    refine hK.out _ _ (XY.all (Has.xy F2.out (by simp))) (fun hHeld => ?_)
    clear hK K
    try simp only [Act.put, List.setIfInBounds_toArray, List.set_cons_zero, List.set_cons_succ]
    refine wpAnyH_take (i := 10) (v := _) rfl (by kernel_rfl) (by kernel_rfl) (by kernel_rfl) (fun _ _ _ h => h) (Or.inl ⟨by rfl, by intro w hSw; (try dsimp only at hSw); go_simp; try (with_reducible rfl)⟩) (by assumption) ?_
    try simp only [Act.put, List.setIfInBounds_toArray, List.set_cons_zero, List.set_cons_succ]
    refine wpAnyH_ready (rs := [11]) (by kernel_rfl) (by simp) ?_
    refine AllReadyH.cons rfl (fun K hK => ?_) AllReadyH.nil
    obtain ⟨k0, k1, k2, k3, k4⟩ := Has.c4 (g := w.heap.size + 1 + 1) (x := .int .i64 0) (y := .int .i64 0) (z := .int .i64 0) (u := .int .i64 0) (t := 25) F2.out (by simp)
    obtain ⟨k5, k6, k7, k8⟩ := Has.f4 (g := w.heap.size + 1 + 1) (cs := #[.int .i64 0, .int .i64 0, .int .i64 0, .int .i64 0]) (t := 25) F2.out (by simp)
    go_simp
    have F3 := Lib.hid (Has.put4 (g := w.heap.size + 1 + 1) (x := .int .i64 0) (y := .int .i64 0) (z := .int .i64 0) (u := .int .i64 0) (t := 25) (M := [(w.heap.size, #[.int .i64 a, .int .i64 b, .int .i64 c, .int .i64 d], 25), (w.heap.size + 1, #[.int .i64 p, .int .i64 q, .int .i64 r, .int .i64 s], 25)]) F2.out (.int .i64 x) (.int .i64 y) (.int .i64 z) (.int .i64 u) (by simp) (by simp <;> omega))
    refine hK.out _ _ (XY.all (Has.xy F3.out (by simp))) (fun hHeld => ?_)
    clear hK K
    try simp only [Act.put, List.setIfInBounds_toArray, List.set_cons_zero, List.set_cons_succ]
    refine wpAnyH_done (by kernel_rfl) ?_ _
    go_wp2
    refine bodyPost_ret (results_cell_row rfl _ _ (w.heap.size + 1 + 1) 25 #[.int .i64 x, .int .i64 y, .int .i64 z, .int .i64 u] (0, 0) _ rfl (F3.out.row (by simp)) Try.underlying25 rfl info25) rfl ?_
    exact ⟨rfl, F3.out.1⟩
set_option maxHeartbeats 1000000 in
theorem imax_raw (a b c d p q r s x y z u : Int) (v : Bool)
    (V : Hid (∀ w : World, Calls Try.prog 41 #[.agg #[.int .i64 a, .int .i64 b, .int .i64 c, .int .i64 d], .agg #[.int .i64 p, .int .i64 q, .int .i64 r, .int .i64 s]] w fun e w' => e = .returned (.bool v) ∧ Below w.heap.size w w'))
    (M1 : Hid (∀ w : World, Calls Try.prog 55 #[.agg #[.int .i64 a, .int .i64 b], .agg #[.int .i64 p, .int .i64 q]] w fun e w' => e = .returned (.agg #[.int .i64 x, .int .i64 y]) ∧ Below w.heap.size w w'))
    (M2 : Hid (∀ w : World, Calls Try.prog 55 #[.agg #[.int .i64 c, .int .i64 d], .agg #[.int .i64 r, .int .i64 s]] w fun e w' => e = .returned (.agg #[.int .i64 z, .int .i64 u]) ∧ Below w.heap.size w w'))
    (w : World) : Calls Try.prog 27 #[.agg #[.int .i64 a, .int .i64 b, .int .i64 c, .int .i64 d], .agg #[.int .i64 p, .int .i64 q, .int .i64 r, .int .i64 s]] w fun e w' => e = .returned (if v = true then .agg #[.int .i64 x, .int .i64 y, .int .i64 z, .int .i64 u] else .agg #[.int .i64 0, .int .i64 0, .int .i64 0, .int .i64 0]) ∧ Below w.heap.size w w' := by
  have T0 := Lib.hid (three0 w #[.int .i64 a, .int .i64 b, .int .i64 c, .int .i64 d] #[.int .i64 p, .int .i64 q, .int .i64 r, .int .i64 s] #[.int .i64 0, .int .i64 0, .int .i64 0, .int .i64 0] 25 25 25)
  cases v with
  | false =>
    rw [if_neg (by decide)]
    go_enter Try.func27, Try.ntmps27
    go_wp2_with fail
    with_reducible refine ((V.out) _).mono ?_
    rintro e w1 ⟨rfl, hb⟩
    have T1 := Lib.hid (T0.out.step hb)
    clear hb T0 V
    obtain ⟨k0, k1, k2, k3, k4⟩ := Has.c4 (g := w.heap.size + 1 + 1) (x := .int .i64 0) (y := .int .i64 0) (z := .int .i64 0) (u := .int .i64 0) (t := 25) T1.out (by simp)
    obtain ⟨k5, k6, k7, k8⟩ := Has.f4 (g := w.heap.size + 1 + 1) (cs := #[.int .i64 0, .int .i64 0, .int .i64 0, .int .i64 0]) (t := 25) T1.out (by simp)
    have T2 := Lib.hid (Has.put4 (g := w.heap.size + 1 + 1) (x := .int .i64 0) (y := .int .i64 0) (z := .int .i64 0) (u := .int .i64 0) (t := 25) (M := [(w.heap.size, #[.int .i64 a, .int .i64 b, .int .i64 c, .int .i64 d], 25)]) T1.out (.int .i64 0) (.int .i64 0) (.int .i64 0) (.int .i64 0) (by simp) (by simp <;> omega))
    go_wp2
    refine bodyPost_ret (results_cell_row rfl _ _ (w.heap.size + 1 + 1) 25 #[.int .i64 0, .int .i64 0, .int .i64 0, .int .i64 0] (0, 0) _ rfl (T2.out.row (by simp)) Try.underlying25 rfl info25) rfl ?_
    exact ⟨rfl, T2.out.1⟩
  | true =>
    rw [if_pos rfl]
    go_enter Try.func27, Try.ntmps27
    go_wp2_with fail
    with_reducible refine ((V.out) _).mono ?_
    rintro e w1 ⟨rfl, hb⟩
    have T1 := Lib.hid (T0.out.step hb)
    clear hb T0 V
    go_upto_region 3 with fail
    have TD := Lib.hid T1.out.drew
    refine wp_region_held_drew (S := (fun V => XY w a b c d p q r s V ∧ (V.cell? ⟨w.heap.size, 0, none⟩ = some (.int .i64 a) ∧ V.cell? ⟨w.heap.size, 1, none⟩ = some (.int .i64 b) ∧ V.cell? ⟨w.heap.size, 2, none⟩ = some (.int .i64 c) ∧ V.cell? ⟨w.heap.size, 3, none⟩ = some (.int .i64 d)) ∧ V.cell? ⟨w.heap.size + 1, 0, none⟩ = some (.int .i64 p) ∧ V.cell? ⟨w.heap.size + 1, 1, none⟩ = some (.int .i64 q) ∧ V.cell? ⟨w.heap.size + 1, 2, none⟩ = some (.int .i64 r) ∧ V.cell? ⟨w.heap.size + 1, 3, none⟩ = some (.int .i64 s))) (by kernel_rfl) (XY.all (Has.xy TD.out (by simp))) (fun hHeld => ?_)
    refine wpAnyH_take (i := 0) (v := _) rfl (by kernel_rfl) (by kernel_rfl) (by kernel_rfl) (fun _ _ _ h => h) (Or.inl ⟨by rfl, by intro w hSw; (try dsimp only at hSw); go_simp; try (with_reducible rfl)⟩) (by assumption) ?_
    try simp only [Act.put, List.setIfInBounds_toArray, List.set_cons_zero, List.set_cons_succ]
    refine wpAnyH_take (i := 1) (v := _) rfl (by kernel_rfl) (by kernel_rfl) (by kernel_rfl) (fun _ _ _ h => h) (Or.inl ⟨by rfl, by intro w hSw; (try dsimp only at hSw); go_simp; try (with_reducible rfl)⟩) (by assumption) ?_
    try simp only [Act.put, List.setIfInBounds_toArray, List.set_cons_zero, List.set_cons_succ]
    refine wpAnyH_take (i := 2) (v := _) rfl (by kernel_rfl) (by kernel_rfl) (by kernel_rfl) (fun _ _ _ h => h) (Or.inl ⟨by rfl, by intro w hSw; (try dsimp only at hSw); go_simp; try (with_reducible rfl)⟩) (by assumption) ?_
    try simp only [Act.put, List.setIfInBounds_toArray, List.set_cons_zero, List.set_cons_succ]
    refine wpAnyH_take (i := 3) (v := _) rfl (by kernel_rfl) (by kernel_rfl) (by kernel_rfl) (fun _ _ _ h => h) (Or.inl ⟨by rfl, by intro w hSw; (try dsimp only at hSw); go_simp; try (with_reducible rfl)⟩) (by assumption) ?_
    try simp only [Act.put, List.setIfInBounds_toArray, List.set_cons_zero, List.set_cons_succ]
    refine wpAnyH_take (i := 5) (v := _) rfl (by kernel_rfl) (by kernel_rfl) (by kernel_rfl) (fun _ _ _ h => h) (Or.inl ⟨by rfl, by intro w hSw; (try dsimp only at hSw); go_simp; try (with_reducible rfl)⟩) (by assumption) ?_
    try simp only [Act.put, List.setIfInBounds_toArray, List.set_cons_zero, List.set_cons_succ]
    refine wpAnyH_take (i := 6) (v := _) rfl (by kernel_rfl) (by kernel_rfl) (by kernel_rfl) (fun _ _ _ h => h) (Or.inl ⟨by rfl, by intro w hSw; (try dsimp only at hSw); go_simp; try (with_reducible rfl)⟩) (by assumption) ?_
    try simp only [Act.put, List.setIfInBounds_toArray, List.set_cons_zero, List.set_cons_succ]
    refine wpAnyH_take (i := 7) (v := _) rfl (by kernel_rfl) (by kernel_rfl) (by kernel_rfl) (fun _ _ _ h => h) (Or.inl ⟨by rfl, by intro w hSw; (try dsimp only at hSw); go_simp; try (with_reducible rfl)⟩) (by assumption) ?_
    try simp only [Act.put, List.setIfInBounds_toArray, List.set_cons_zero, List.set_cons_succ]
    refine wpAnyH_take (i := 8) (v := _) rfl (by kernel_rfl) (by kernel_rfl) (by kernel_rfl) (fun _ _ _ h => h) (Or.inl ⟨by rfl, by intro w hSw; (try dsimp only at hSw); go_simp; try (with_reducible rfl)⟩) (by assumption) ?_
    try simp only [Act.put, List.setIfInBounds_toArray, List.set_cons_zero, List.set_cons_succ]
    refine wpAnyH_ready (rs := [4]) (by kernel_rfl) (by simp) ?_
    refine AllReadyH.cons rfl (fun K hK => ?_) AllReadyH.nil
    go_simp
    go_at_call 55
    with_reducible refine Calls.mono (M1.out _) ?_
    rintro e w2 ⟨rfl, hb⟩
    have F1 := Lib.hid (TD.out.step hb)
    clear hb 
    refine hK.out _ _ (XY.all (Has.xy F1.out (by simp))) (fun hHeld => ?_)
    clear hK K
    try simp only [Act.put, List.setIfInBounds_toArray, List.set_cons_zero, List.set_cons_succ]
    refine wpAnyH_ready (rs := [9]) (by kernel_rfl) (by simp) ?_
    refine AllReadyH.cons rfl (fun K hK => ?_) AllReadyH.nil
    go_simp
    go_at_call 55
    with_reducible refine Calls.mono (M2.out _) ?_
    rintro e w3 ⟨rfl, hb⟩
    have F2 := Lib.hid (F1.out.step hb)
    clear hb 
    refine hK.out _ _ (XY.all (Has.xy F2.out (by simp))) (fun hHeld => ?_)
    clear hK K
    try simp only [Act.put, List.setIfInBounds_toArray, List.set_cons_zero, List.set_cons_succ]
    refine wpAnyH_take (i := 10) (v := _) rfl (by kernel_rfl) (by kernel_rfl) (by kernel_rfl) (fun _ _ _ h => h) (Or.inl ⟨by rfl, by intro w hSw; (try dsimp only at hSw); go_simp; try (with_reducible rfl)⟩) (by assumption) ?_
    try simp only [Act.put, List.setIfInBounds_toArray, List.set_cons_zero, List.set_cons_succ]
    refine wpAnyH_ready (rs := [11]) (by kernel_rfl) (by simp) ?_
    refine AllReadyH.cons rfl (fun K hK => ?_) AllReadyH.nil
    obtain ⟨k0, k1, k2, k3, k4⟩ := Has.c4 (g := w.heap.size + 1 + 1) (x := .int .i64 0) (y := .int .i64 0) (z := .int .i64 0) (u := .int .i64 0) (t := 25) F2.out (by simp)
    obtain ⟨k5, k6, k7, k8⟩ := Has.f4 (g := w.heap.size + 1 + 1) (cs := #[.int .i64 0, .int .i64 0, .int .i64 0, .int .i64 0]) (t := 25) F2.out (by simp)
    go_simp
    have F3 := Lib.hid (Has.put4 (g := w.heap.size + 1 + 1) (x := .int .i64 0) (y := .int .i64 0) (z := .int .i64 0) (u := .int .i64 0) (t := 25) (M := [(w.heap.size, #[.int .i64 a, .int .i64 b, .int .i64 c, .int .i64 d], 25), (w.heap.size + 1, #[.int .i64 p, .int .i64 q, .int .i64 r, .int .i64 s], 25)]) F2.out (.int .i64 x) (.int .i64 y) (.int .i64 z) (.int .i64 u) (by simp) (by simp <;> omega))
    refine hK.out _ _ (XY.all (Has.xy F3.out (by simp))) (fun hHeld => ?_)
    clear hK K
    try simp only [Act.put, List.setIfInBounds_toArray, List.set_cons_zero, List.set_cons_succ]
    refine wpAnyH_done (by kernel_rfl) ?_ _
    go_wp2
    refine bodyPost_ret (results_cell_row rfl _ _ (w.heap.size + 1 + 1) 25 #[.int .i64 x, .int .i64 y, .int .i64 z, .int .i64 u] (0, 0) _ rfl (F3.out.row (by simp)) Try.underlying25 rfl info25) rfl ?_
    exact ⟨rfl, F3.out.1⟩
set_option maxHeartbeats 1000000 in
theorem ihull_raw (a b c d p q r s x y z u x' y' z' u' : Int) (v : Bool)
    (V : Hid (∀ w : World, Calls Try.prog 41 #[.agg #[.int .i64 a, .int .i64 b, .int .i64 c, .int .i64 d], .agg #[.int .i64 p, .int .i64 q, .int .i64 r, .int .i64 s]] w fun e w' => e = .returned (.bool v) ∧ Below w.heap.size w w'))
    (M1 : Hid (∀ w : World, Calls Try.prog 53 #[.agg #[.int .i64 a, .int .i64 b, .int .i64 c, .int .i64 d], .agg #[.int .i64 p, .int .i64 q]] w fun e w' => e = .returned (.agg #[.int .i64 x, .int .i64 y, .int .i64 z, .int .i64 u]) ∧ Below w.heap.size w w'))
    (M2 : Hid (∀ w : World, Calls Try.prog 53 #[.agg #[.int .i64 x, .int .i64 y, .int .i64 z, .int .i64 u], .agg #[.int .i64 r, .int .i64 s]] w fun e w' => e = .returned (.agg #[.int .i64 x', .int .i64 y', .int .i64 z', .int .i64 u']) ∧ Below w.heap.size w w'))
    (w : World) : Calls Try.prog 23 #[.agg #[.int .i64 a, .int .i64 b, .int .i64 c, .int .i64 d], .agg #[.int .i64 p, .int .i64 q, .int .i64 r, .int .i64 s]] w fun e w' => e = .returned (if v = true then .agg #[.int .i64 x', .int .i64 y', .int .i64 z', .int .i64 u'] else .agg #[.int .i64 0, .int .i64 0, .int .i64 0, .int .i64 0]) ∧ Below w.heap.size w w' := by
  have T0 := Lib.hid (three0 w #[.int .i64 a, .int .i64 b, .int .i64 c, .int .i64 d] #[.int .i64 p, .int .i64 q, .int .i64 r, .int .i64 s] #[.int .i64 0, .int .i64 0, .int .i64 0, .int .i64 0] 25 25 25)
  cases v with
  | false =>
    rw [if_neg (by decide)]
    go_enter Try.func23, Try.ntmps23
    go_wp2_with fail
    with_reducible refine ((V.out) _).mono ?_
    rintro e w1 ⟨rfl, hb⟩
    have T1 := Lib.hid (T0.out.step hb)
    clear hb T0 V
    obtain ⟨k0, k1, k2, k3, k4⟩ := Has.c4 (g := w.heap.size + 1 + 1) (x := .int .i64 0) (y := .int .i64 0) (z := .int .i64 0) (u := .int .i64 0) (t := 25) T1.out (by simp)
    obtain ⟨k5, k6, k7, k8⟩ := Has.f4 (g := w.heap.size + 1 + 1) (cs := #[.int .i64 0, .int .i64 0, .int .i64 0, .int .i64 0]) (t := 25) T1.out (by simp)
    have T2 := Lib.hid (Has.put4 (g := w.heap.size + 1 + 1) (x := .int .i64 0) (y := .int .i64 0) (z := .int .i64 0) (u := .int .i64 0) (t := 25) (M := [(w.heap.size, #[.int .i64 a, .int .i64 b, .int .i64 c, .int .i64 d], 25)]) T1.out (.int .i64 0) (.int .i64 0) (.int .i64 0) (.int .i64 0) (by simp) (by simp <;> omega))
    go_wp2
    refine bodyPost_ret (results_cell_row rfl _ _ (w.heap.size + 1 + 1) 25 #[.int .i64 0, .int .i64 0, .int .i64 0, .int .i64 0] (0, 0) _ rfl (T2.out.row (by simp)) Try.underlying25 rfl info25) rfl ?_
    exact ⟨rfl, T2.out.1⟩
  | true =>
    rw [if_pos rfl]
    go_enter Try.func23, Try.ntmps23
    go_wp2_with fail
    with_reducible refine ((V.out) _).mono ?_
    rintro e w1 ⟨rfl, hb⟩
    have T1 := Lib.hid (T0.out.step hb)
    clear hb T0 V
    go_upto_region 3 with fail
    have TD := Lib.hid T1.out.drew
    refine wp_region_held_drew (S := (fun V => XY w a b c d p q r s V ∧ (V.cell? ⟨w.heap.size, 0, none⟩ = some (.int .i64 a) ∧ V.cell? ⟨w.heap.size, 1, none⟩ = some (.int .i64 b) ∧ V.cell? ⟨w.heap.size, 2, none⟩ = some (.int .i64 c) ∧ V.cell? ⟨w.heap.size, 3, none⟩ = some (.int .i64 d)) ∧ V.cell? ⟨w.heap.size + 1, 0, none⟩ = some (.int .i64 p) ∧ V.cell? ⟨w.heap.size + 1, 1, none⟩ = some (.int .i64 q) ∧ V.cell? ⟨w.heap.size + 1, 2, none⟩ = some (.int .i64 r) ∧ V.cell? ⟨w.heap.size + 1, 3, none⟩ = some (.int .i64 s))) (by kernel_rfl) (XY.all (Has.xy TD.out (by simp))) (fun hHeld => ?_)
    refine wpAnyH_take (i := 0) (v := _) rfl (by kernel_rfl) (by kernel_rfl) (by kernel_rfl) (fun _ _ _ h => h) (Or.inl ⟨by rfl, by intro w hSw; (try dsimp only at hSw); go_simp; try (with_reducible rfl)⟩) (by assumption) ?_
    try simp only [Act.put, List.setIfInBounds_toArray, List.set_cons_zero, List.set_cons_succ]
    refine wpAnyH_take (i := 1) (v := _) rfl (by kernel_rfl) (by kernel_rfl) (by kernel_rfl) (fun _ _ _ h => h) (Or.inl ⟨by rfl, by intro w hSw; (try dsimp only at hSw); go_simp; try (with_reducible rfl)⟩) (by assumption) ?_
    try simp only [Act.put, List.setIfInBounds_toArray, List.set_cons_zero, List.set_cons_succ]
    refine wpAnyH_take (i := 2) (v := _) rfl (by kernel_rfl) (by kernel_rfl) (by kernel_rfl) (fun _ _ _ h => h) (Or.inl ⟨by rfl, by intro w hSw; (try dsimp only at hSw); go_simp; try (with_reducible rfl)⟩) (by assumption) ?_
    try simp only [Act.put, List.setIfInBounds_toArray, List.set_cons_zero, List.set_cons_succ]
    refine wpAnyH_take (i := 4) (v := _) rfl (by kernel_rfl) (by kernel_rfl) (by kernel_rfl) (fun _ _ _ h => h) (Or.inl ⟨by rfl, by intro w hSw; (try dsimp only at hSw); go_simp; try (with_reducible rfl)⟩) (by assumption) ?_
    try simp only [Act.put, List.setIfInBounds_toArray, List.set_cons_zero, List.set_cons_succ]
    refine wpAnyH_take (i := 5) (v := _) rfl (by kernel_rfl) (by kernel_rfl) (by kernel_rfl) (fun _ _ _ h => h) (Or.inl ⟨by rfl, by intro w hSw; (try dsimp only at hSw); go_simp; try (with_reducible rfl)⟩) (by assumption) ?_
    try simp only [Act.put, List.setIfInBounds_toArray, List.set_cons_zero, List.set_cons_succ]
    refine wpAnyH_ready (rs := [3]) (by kernel_rfl) (by simp) ?_
    refine AllReadyH.cons rfl (fun K hK => ?_) AllReadyH.nil
    go_simp
    go_at_call 53
    with_reducible refine Calls.mono (M1.out _) ?_
    rintro e w2 ⟨rfl, hb⟩
    have F1 := Lib.hid (TD.out.step hb)
    clear hb 
    refine hK.out _ _ (XY.all (Has.xy F1.out (by simp))) (fun hHeld => ?_)
    clear hK K
    try simp only [Act.put, List.setIfInBounds_toArray, List.set_cons_zero, List.set_cons_succ]
    refine wpAnyH_ready (rs := [6]) (by kernel_rfl) (by simp) ?_
    refine AllReadyH.cons rfl (fun K hK => ?_) AllReadyH.nil
    go_simp
    go_at_call 53
    with_reducible refine Calls.mono (M2.out _) ?_
    rintro e w3 ⟨rfl, hb⟩
    have F2 := Lib.hid (F1.out.step hb)
    clear hb 
    refine hK.out _ _ (XY.all (Has.xy F2.out (by simp))) (fun hHeld => ?_)
    clear hK K
    try simp only [Act.put, List.setIfInBounds_toArray, List.set_cons_zero, List.set_cons_succ]
    refine wpAnyH_ready (rs := [7]) (by kernel_rfl) (by simp) ?_
    refine AllReadyH.cons rfl (fun K hK => ?_) AllReadyH.nil
    obtain ⟨k0, k1, k2, k3, k4⟩ := Has.c4 (g := w.heap.size + 1 + 1) (x := .int .i64 0) (y := .int .i64 0) (z := .int .i64 0) (u := .int .i64 0) (t := 25) F2.out (by simp)
    obtain ⟨k5, k6, k7, k8⟩ := Has.f4 (g := w.heap.size + 1 + 1) (cs := #[.int .i64 0, .int .i64 0, .int .i64 0, .int .i64 0]) (t := 25) F2.out (by simp)
    go_simp
    have F3 := Lib.hid (Has.put4 (g := w.heap.size + 1 + 1) (x := .int .i64 0) (y := .int .i64 0) (z := .int .i64 0) (u := .int .i64 0) (t := 25) (M := [(w.heap.size, #[.int .i64 a, .int .i64 b, .int .i64 c, .int .i64 d], 25), (w.heap.size + 1, #[.int .i64 p, .int .i64 q, .int .i64 r, .int .i64 s], 25)]) F2.out (.int .i64 x') (.int .i64 y') (.int .i64 z') (.int .i64 u') (by simp) (by simp <;> omega))
    refine hK.out _ _ (XY.all (Has.xy F3.out (by simp))) (fun hHeld => ?_)
    clear hK K
    try simp only [Act.put, List.setIfInBounds_toArray, List.set_cons_zero, List.set_cons_succ]
    refine wpAnyH_done (by kernel_rfl) ?_ _
    go_wp2
    refine bodyPost_ret (results_cell_row rfl _ _ (w.heap.size + 1 + 1) 25 #[.int .i64 x', .int .i64 y', .int .i64 z', .int .i64 u'] (0, 0) _ rfl (F3.out.row (by simp)) Try.underlying25 rfl info25) rfl ?_
    exact ⟨rfl, F3.out.1⟩
end Go.Proofs.Ytbiegbnncnjnmaa.Iv
namespace Go.Proofs.Ytbiegbnncnjnmaa.Iv
open Go.RowKit
open Go.Proofs.Ytbiegbnncnjnmaa.Pro

set_option maxHeartbeats 1000000 in
theorem iadd_raw (a b c d p q r s x y z u e1 e2 : Int) (v : Bool)
    (V : Hid (∀ w : World, Calls Try.prog 41 #[.agg #[.int .i64 a, .int .i64 b, .int .i64 c, .int .i64 d], .agg #[.int .i64 p, .int .i64 q, .int .i64 r, .int .i64 s]] w fun e w' => e = .returned (.bool v) ∧ Below w.heap.size w w'))
    (A1 : Hid (∀ w : World, Calls Try.prog 57 #[.agg #[.int .i64 a, .int .i64 b], .agg #[.int .i64 p, .int .i64 q]] w fun e w' => e = .returned (.tuple #[.agg #[.int .i64 x, .int .i64 y], .int .i64 e1]) ∧ Below w.heap.size w w'))
    (A2 : Hid (∀ w : World, Calls Try.prog 57 #[.agg #[.int .i64 c, .int .i64 d], .agg #[.int .i64 r, .int .i64 s]] w fun e w' => e = .returned (.tuple #[.agg #[.int .i64 z, .int .i64 u], .int .i64 e2]) ∧ Below w.heap.size w w'))
    (w : World) : Calls Try.prog 47 #[.agg #[.int .i64 a, .int .i64 b, .int .i64 c, .int .i64 d], .agg #[.int .i64 p, .int .i64 q, .int .i64 r, .int .i64 s]] w fun e w' => e = .returned (if v = true then (if e1 = 0 then (if e2 = 0 then .tuple #[.agg #[.int .i64 x, .int .i64 y, .int .i64 z, .int .i64 u], .int .i64 0] else .tuple #[.agg #[.int .i64 0, .int .i64 0, .int .i64 0, .int .i64 0], .int .i64 e2]) else .tuple #[.agg #[.int .i64 0, .int .i64 0, .int .i64 0, .int .i64 0], .int .i64 e1]) else .tuple #[.agg #[.int .i64 0, .int .i64 0, .int .i64 0, .int .i64 0], .int .i64 1]) ∧ Below w.heap.size w w' := by
  have T0 := Lib.hid (three0 w #[.int .i64 a, .int .i64 b, .int .i64 c, .int .i64 d] #[.int .i64 p, .int .i64 q, .int .i64 r, .int .i64 s] #[.int .i64 0, .int .i64 0, .int .i64 0, .int .i64 0] 25 25 25)
  cases v with
  | false =>
    rw [if_neg (by decide)]
    go_enter Try.func47, Try.ntmps47
    go_wp2_with fail
    with_reducible refine ((V.out) _).mono ?_
    rintro e w1 ⟨rfl, hb⟩
    have T1 := Lib.hid (T0.out.step hb)
    clear hb T0 V
    obtain ⟨k0, k1, k2, k3, k4⟩ := Has.c4 (g := w.heap.size + 1 + 1) (x := .int .i64 0) (y := .int .i64 0) (z := .int .i64 0) (u := .int .i64 0) (t := 25) T1.out (by simp)
    obtain ⟨k5, k6, k7, k8⟩ := Has.f4 (g := w.heap.size + 1 + 1) (cs := #[.int .i64 0, .int .i64 0, .int .i64 0, .int .i64 0]) (t := 25) T1.out (by simp)
    have T2 := Lib.hid (Has.put4 (g := w.heap.size + 1 + 1) (x := .int .i64 0) (y := .int .i64 0) (z := .int .i64 0) (u := .int .i64 0) (t := 25) (M := [(w.heap.size, #[.int .i64 a, .int .i64 b, .int .i64 c, .int .i64 d], 25)]) T1.out (.int .i64 0) (.int .i64 0) (.int .i64 0) (.int .i64 0) (by simp) (by simp <;> omega))
    go_wp2
    refine bodyPost_ret (res_cell_tmp rfl _ _ (w.heap.size + 1 + 1) 25 #[.int .i64 0, .int .i64 0, .int .i64 0, .int .i64 0] (0, 0) _ rfl (T2.out.row (by simp)) Try.underlying25 rfl info25) rfl ?_
    exact ⟨rfl, T2.out.1⟩
  | true =>
    rw [if_pos rfl]
    by_cases h1 : e1 = 0
    · subst h1
      rw [if_pos rfl]
      by_cases h2 : e2 = 0
      · subst h2
        rw [if_pos rfl]
        go_enter Try.func47, Try.ntmps47
        go_wp2_with fail
        with_reducible refine ((V.out) _).mono ?_
        rintro e w1 ⟨rfl, hb⟩
        have T1 := Lib.hid (T0.out.step hb)
        clear hb T0 V
        obtain ⟨x0, x1, x2, x3, x4⟩ := Has.c4 (g := w.heap.size) (x := .int .i64 a) (y := .int .i64 b) (z := .int .i64 c) (u := .int .i64 d) (t := 25) T1.out (by simp)
        obtain ⟨y0, y1, y2, y3, y4⟩ := Has.c4 (g := w.heap.size + 1) (x := .int .i64 p) (y := .int .i64 q) (z := .int .i64 r) (u := .int .i64 s) (t := 25) T1.out (by simp)
        go_wp2_with fail
        with_reducible refine ((A1.out) _).mono ?_
        rintro e w2 ⟨rfl, hb⟩
        have T2 := Lib.hid ((T1.out.step hb).alloc #[.int .i64 x, .int .i64 y] 23)
        have g1lt : w.heap.size + 1 + 1 < w2.heap.size := Has.lt (x := (w.heap.size + 1 + 1, #[.int .i64 0, .int .i64 0, .int .i64 0, .int .i64 0], 25)) (T1.out.step hb) (by simp)
        clear hb T1 A1 x0 x1 x2 x3 x4 y0 y1 y2 y3 y4
        go_upto_region 4 with fail
        generalize w2.alloc (.cells #[.int .i64 x, .int .i64 y] 23) = yg1 at *
        generalize w2.heap.size = g1 at *
        obtain ⟨x0, x1, x2, x3, x4⟩ := Has.c4 (g := w.heap.size) (x := .int .i64 a) (y := .int .i64 b) (z := .int .i64 c) (u := .int .i64 d) (t := 25) T2.out (by simp)
        obtain ⟨y0, y1, y2, y3, y4⟩ := Has.c4 (g := w.heap.size + 1) (x := .int .i64 p) (y := .int .i64 q) (z := .int .i64 r) (u := .int .i64 s) (t := 25) T2.out (by simp)
        go_wp2_with fail
        with_reducible refine ((A2.out) _).mono ?_
        rintro e w3 ⟨rfl, hb⟩
        have T3 := Lib.hid ((T2.out.step hb).alloc #[.int .i64 z, .int .i64 u] 23)
        have g2lt : w.heap.size + 1 + 1 < w3.heap.size := Has.lt (x := (w.heap.size + 1 + 1, #[.int .i64 0, .int .i64 0, .int .i64 0, .int .i64 0], 25)) (T2.out.step hb) (by simp)
        clear hb T2 A2 x0 x1 x2 x3 x4 y0 y1 y2 y3 y4
        go_upto_region 7 with fail
        generalize w3.alloc (.cells #[.int .i64 z, .int .i64 u] 23) = yg2 at *
        generalize w3.heap.size = g2 at *
        obtain ⟨k0, k1, k2, k3, k4⟩ := Has.c4 (g := w.heap.size + 1 + 1) (x := .int .i64 0) (y := .int .i64 0) (z := .int .i64 0) (u := .int .i64 0) (t := 25) T3.out (by simp)
        obtain ⟨k5, k6, k7, k8⟩ := Has.f4 (g := w.heap.size + 1 + 1) (cs := #[.int .i64 0, .int .i64 0, .int .i64 0, .int .i64 0]) (t := 25) T3.out (by simp)
        obtain ⟨m0, m1, m4⟩ := Has.c2 (g := g1) (x := .int .i64 x) (y := .int .i64 y) (t := 23) T3.out (by simp)
        obtain ⟨n0, n1, n4⟩ := Has.c2 (g := g2) (x := .int .i64 z) (y := .int .i64 u) (t := 23) T3.out (by simp)
        have T4 := Lib.hid (Has.put4 (g := w.heap.size + 1 + 1) (x := .int .i64 0) (y := .int .i64 0) (z := .int .i64 0) (u := .int .i64 0) (t := 25) (M := [(w.heap.size, #[.int .i64 a, .int .i64 b, .int .i64 c, .int .i64 d], 25)]) T3.out (.int .i64 x) (.int .i64 y) (.int .i64 z) (.int .i64 u) (by simp) (by simp <;> omega))
        go_wp2
        refine bodyPost_ret (res_cell_tmp rfl _ _ (w.heap.size + 1 + 1) 25 #[.int .i64 x, .int .i64 y, .int .i64 z, .int .i64 u] (0, 0) _ rfl (T4.out.row (by simp)) Try.underlying25 rfl info25) rfl ?_
        exact ⟨rfl, T4.out.1⟩
      · rw [if_neg h2]
        go_enter Try.func47, Try.ntmps47
        go_wp2_with fail
        with_reducible refine ((V.out) _).mono ?_
        rintro e w1 ⟨rfl, hb⟩
        have T1 := Lib.hid (T0.out.step hb)
        clear hb T0 V
        obtain ⟨x0, x1, x2, x3, x4⟩ := Has.c4 (g := w.heap.size) (x := .int .i64 a) (y := .int .i64 b) (z := .int .i64 c) (u := .int .i64 d) (t := 25) T1.out (by simp)
        obtain ⟨y0, y1, y2, y3, y4⟩ := Has.c4 (g := w.heap.size + 1) (x := .int .i64 p) (y := .int .i64 q) (z := .int .i64 r) (u := .int .i64 s) (t := 25) T1.out (by simp)
        go_wp2_with fail
        with_reducible refine ((A1.out) _).mono ?_
        rintro e w2 ⟨rfl, hb⟩
        have T2 := Lib.hid ((T1.out.step hb).alloc #[.int .i64 x, .int .i64 y] 23)
        have g1lt : w.heap.size + 1 + 1 < w2.heap.size := Has.lt (x := (w.heap.size + 1 + 1, #[.int .i64 0, .int .i64 0, .int .i64 0, .int .i64 0], 25)) (T1.out.step hb) (by simp)
        clear hb T1 A1 x0 x1 x2 x3 x4 y0 y1 y2 y3 y4
        go_upto_region 4 with fail
        generalize w2.alloc (.cells #[.int .i64 x, .int .i64 y] 23) = yg1 at *
        generalize w2.heap.size = g1 at *
        obtain ⟨x0, x1, x2, x3, x4⟩ := Has.c4 (g := w.heap.size) (x := .int .i64 a) (y := .int .i64 b) (z := .int .i64 c) (u := .int .i64 d) (t := 25) T2.out (by simp)
        obtain ⟨y0, y1, y2, y3, y4⟩ := Has.c4 (g := w.heap.size + 1) (x := .int .i64 p) (y := .int .i64 q) (z := .int .i64 r) (u := .int .i64 s) (t := 25) T2.out (by simp)
        go_wp2_with fail
        with_reducible refine ((A2.out) _).mono ?_
        rintro e w3 ⟨rfl, hb⟩
        have T3 := Lib.hid ((T2.out.step hb).alloc #[.int .i64 z, .int .i64 u] 23)
        have g2lt : w.heap.size + 1 + 1 < w3.heap.size := Has.lt (x := (w.heap.size + 1 + 1, #[.int .i64 0, .int .i64 0, .int .i64 0, .int .i64 0], 25)) (T2.out.step hb) (by simp)
        clear hb T2 A2 x0 x1 x2 x3 x4 y0 y1 y2 y3 y4
        go_upto_region 7 with fail
        generalize w3.alloc (.cells #[.int .i64 z, .int .i64 u] 23) = yg2 at *
        generalize w3.heap.size = g2 at *
        obtain ⟨k0, k1, k2, k3, k4⟩ := Has.c4 (g := w.heap.size + 1 + 1) (x := .int .i64 0) (y := .int .i64 0) (z := .int .i64 0) (u := .int .i64 0) (t := 25) T3.out (by simp)
        obtain ⟨k5, k6, k7, k8⟩ := Has.f4 (g := w.heap.size + 1 + 1) (cs := #[.int .i64 0, .int .i64 0, .int .i64 0, .int .i64 0]) (t := 25) T3.out (by simp)
        have T4 := Lib.hid (Has.put4 (g := w.heap.size + 1 + 1) (x := .int .i64 0) (y := .int .i64 0) (z := .int .i64 0) (u := .int .i64 0) (t := 25) (M := [(w.heap.size, #[.int .i64 a, .int .i64 b, .int .i64 c, .int .i64 d], 25)]) T3.out (.int .i64 0) (.int .i64 0) (.int .i64 0) (.int .i64 0) (by simp) (by simp <;> omega))
        go_wp2
        refine bodyPost_ret (res_cell_tmp rfl _ _ (w.heap.size + 1 + 1) 25 #[.int .i64 0, .int .i64 0, .int .i64 0, .int .i64 0] (0, 0) _ rfl (T4.out.row (by simp)) Try.underlying25 rfl info25) rfl ?_
        exact ⟨rfl, T4.out.1⟩
    · rw [if_neg h1]
      go_enter Try.func47, Try.ntmps47
      go_wp2_with fail
      with_reducible refine ((V.out) _).mono ?_
      rintro e w1 ⟨rfl, hb⟩
      have T1 := Lib.hid (T0.out.step hb)
      clear hb T0 V
      obtain ⟨x0, x1, x2, x3, x4⟩ := Has.c4 (g := w.heap.size) (x := .int .i64 a) (y := .int .i64 b) (z := .int .i64 c) (u := .int .i64 d) (t := 25) T1.out (by simp)
      obtain ⟨y0, y1, y2, y3, y4⟩ := Has.c4 (g := w.heap.size + 1) (x := .int .i64 p) (y := .int .i64 q) (z := .int .i64 r) (u := .int .i64 s) (t := 25) T1.out (by simp)
      go_wp2_with fail
      with_reducible refine ((A1.out) _).mono ?_
      rintro e w2 ⟨rfl, hb⟩
      have T2 := Lib.hid ((T1.out.step hb).alloc #[.int .i64 x, .int .i64 y] 23)
      have g1lt : w.heap.size + 1 + 1 < w2.heap.size := Has.lt (x := (w.heap.size + 1 + 1, #[.int .i64 0, .int .i64 0, .int .i64 0, .int .i64 0], 25)) (T1.out.step hb) (by simp)
      clear hb T1 A1 x0 x1 x2 x3 x4 y0 y1 y2 y3 y4
      go_upto_region 4 with fail
      generalize w2.alloc (.cells #[.int .i64 x, .int .i64 y] 23) = yg1 at *
      generalize w2.heap.size = g1 at *
      obtain ⟨k0, k1, k2, k3, k4⟩ := Has.c4 (g := w.heap.size + 1 + 1) (x := .int .i64 0) (y := .int .i64 0) (z := .int .i64 0) (u := .int .i64 0) (t := 25) T2.out (by simp)
      obtain ⟨k5, k6, k7, k8⟩ := Has.f4 (g := w.heap.size + 1 + 1) (cs := #[.int .i64 0, .int .i64 0, .int .i64 0, .int .i64 0]) (t := 25) T2.out (by simp)
      have T3 := Lib.hid (Has.put4 (g := w.heap.size + 1 + 1) (x := .int .i64 0) (y := .int .i64 0) (z := .int .i64 0) (u := .int .i64 0) (t := 25) (M := [(w.heap.size, #[.int .i64 a, .int .i64 b, .int .i64 c, .int .i64 d], 25)]) T2.out (.int .i64 0) (.int .i64 0) (.int .i64 0) (.int .i64 0) (by simp) (by simp <;> omega))
      go_wp2
      refine bodyPost_ret (res_cell_tmp rfl _ _ (w.heap.size + 1 + 1) 25 #[.int .i64 0, .int .i64 0, .int .i64 0, .int .i64 0] (0, 0) _ rfl (T3.out.row (by simp)) Try.underlying25 rfl info25) rfl ?_
      exact ⟨rfl, T3.out.1⟩
set_option maxHeartbeats 1000000 in
theorem isub_raw (a b c d p q r s x y z u e1 e2 : Int) (v : Bool)
    (V : Hid (∀ w : World, Calls Try.prog 41 #[.agg #[.int .i64 a, .int .i64 b, .int .i64 c, .int .i64 d], .agg #[.int .i64 p, .int .i64 q, .int .i64 r, .int .i64 s]] w fun e w' => e = .returned (.bool v) ∧ Below w.heap.size w w'))
    (A1 : Hid (∀ w : World, Calls Try.prog 35 #[.agg #[.int .i64 a, .int .i64 b], .agg #[.int .i64 r, .int .i64 s]] w fun e w' => e = .returned (.tuple #[.agg #[.int .i64 x, .int .i64 y], .int .i64 e1]) ∧ Below w.heap.size w w'))
    (A2 : Hid (∀ w : World, Calls Try.prog 35 #[.agg #[.int .i64 c, .int .i64 d], .agg #[.int .i64 p, .int .i64 q]] w fun e w' => e = .returned (.tuple #[.agg #[.int .i64 z, .int .i64 u], .int .i64 e2]) ∧ Below w.heap.size w w'))
    (w : World) : Calls Try.prog 48 #[.agg #[.int .i64 a, .int .i64 b, .int .i64 c, .int .i64 d], .agg #[.int .i64 p, .int .i64 q, .int .i64 r, .int .i64 s]] w fun e w' => e = .returned (if v = true then (if e1 = 0 then (if e2 = 0 then .tuple #[.agg #[.int .i64 x, .int .i64 y, .int .i64 z, .int .i64 u], .int .i64 0] else .tuple #[.agg #[.int .i64 0, .int .i64 0, .int .i64 0, .int .i64 0], .int .i64 e2]) else .tuple #[.agg #[.int .i64 0, .int .i64 0, .int .i64 0, .int .i64 0], .int .i64 e1]) else .tuple #[.agg #[.int .i64 0, .int .i64 0, .int .i64 0, .int .i64 0], .int .i64 1]) ∧ Below w.heap.size w w' := by
  have T0 := Lib.hid (three0 w #[.int .i64 a, .int .i64 b, .int .i64 c, .int .i64 d] #[.int .i64 p, .int .i64 q, .int .i64 r, .int .i64 s] #[.int .i64 0, .int .i64 0, .int .i64 0, .int .i64 0] 25 25 25)
  cases v with
  | false =>
    rw [if_neg (by decide)]
    go_enter Try.func48, Try.ntmps48
    go_wp2_with fail
    with_reducible refine ((V.out) _).mono ?_
    rintro e w1 ⟨rfl, hb⟩
    have T1 := Lib.hid (T0.out.step hb)
    clear hb T0 V
    obtain ⟨k0, k1, k2, k3, k4⟩ := Has.c4 (g := w.heap.size + 1 + 1) (x := .int .i64 0) (y := .int .i64 0) (z := .int .i64 0) (u := .int .i64 0) (t := 25) T1.out (by simp)
    obtain ⟨k5, k6, k7, k8⟩ := Has.f4 (g := w.heap.size + 1 + 1) (cs := #[.int .i64 0, .int .i64 0, .int .i64 0, .int .i64 0]) (t := 25) T1.out (by simp)
    have T2 := Lib.hid (Has.put4 (g := w.heap.size + 1 + 1) (x := .int .i64 0) (y := .int .i64 0) (z := .int .i64 0) (u := .int .i64 0) (t := 25) (M := [(w.heap.size, #[.int .i64 a, .int .i64 b, .int .i64 c, .int .i64 d], 25)]) T1.out (.int .i64 0) (.int .i64 0) (.int .i64 0) (.int .i64 0) (by simp) (by simp <;> omega))
    go_wp2
    refine bodyPost_ret (res_cell_tmp rfl _ _ (w.heap.size + 1 + 1) 25 #[.int .i64 0, .int .i64 0, .int .i64 0, .int .i64 0] (0, 0) _ rfl (T2.out.row (by simp)) Try.underlying25 rfl info25) rfl ?_
    exact ⟨rfl, T2.out.1⟩
  | true =>
    rw [if_pos rfl]
    by_cases h1 : e1 = 0
    · subst h1
      rw [if_pos rfl]
      by_cases h2 : e2 = 0
      · subst h2
        rw [if_pos rfl]
        go_enter Try.func48, Try.ntmps48
        go_wp2_with fail
        with_reducible refine ((V.out) _).mono ?_
        rintro e w1 ⟨rfl, hb⟩
        have T1 := Lib.hid (T0.out.step hb)
        clear hb T0 V
        obtain ⟨x0, x1, x2, x3, x4⟩ := Has.c4 (g := w.heap.size) (x := .int .i64 a) (y := .int .i64 b) (z := .int .i64 c) (u := .int .i64 d) (t := 25) T1.out (by simp)
        obtain ⟨y0, y1, y2, y3, y4⟩ := Has.c4 (g := w.heap.size + 1) (x := .int .i64 p) (y := .int .i64 q) (z := .int .i64 r) (u := .int .i64 s) (t := 25) T1.out (by simp)
        go_wp2_with fail
        with_reducible refine ((A1.out) _).mono ?_
        rintro e w2 ⟨rfl, hb⟩
        have T2 := Lib.hid ((T1.out.step hb).alloc #[.int .i64 x, .int .i64 y] 23)
        have g1lt : w.heap.size + 1 + 1 < w2.heap.size := Has.lt (x := (w.heap.size + 1 + 1, #[.int .i64 0, .int .i64 0, .int .i64 0, .int .i64 0], 25)) (T1.out.step hb) (by simp)
        clear hb T1 A1 x0 x1 x2 x3 x4 y0 y1 y2 y3 y4
        go_upto_region 4 with fail
        generalize w2.alloc (.cells #[.int .i64 x, .int .i64 y] 23) = yg1 at *
        generalize w2.heap.size = g1 at *
        obtain ⟨x0, x1, x2, x3, x4⟩ := Has.c4 (g := w.heap.size) (x := .int .i64 a) (y := .int .i64 b) (z := .int .i64 c) (u := .int .i64 d) (t := 25) T2.out (by simp)
        obtain ⟨y0, y1, y2, y3, y4⟩ := Has.c4 (g := w.heap.size + 1) (x := .int .i64 p) (y := .int .i64 q) (z := .int .i64 r) (u := .int .i64 s) (t := 25) T2.out (by simp)
        go_wp2_with fail
        with_reducible refine ((A2.out) _).mono ?_
        rintro e w3 ⟨rfl, hb⟩
        have T3 := Lib.hid ((T2.out.step hb).alloc #[.int .i64 z, .int .i64 u] 23)
        have g2lt : w.heap.size + 1 + 1 < w3.heap.size := Has.lt (x := (w.heap.size + 1 + 1, #[.int .i64 0, .int .i64 0, .int .i64 0, .int .i64 0], 25)) (T2.out.step hb) (by simp)
        clear hb T2 A2 x0 x1 x2 x3 x4 y0 y1 y2 y3 y4
        go_upto_region 7 with fail
        generalize w3.alloc (.cells #[.int .i64 z, .int .i64 u] 23) = yg2 at *
        generalize w3.heap.size = g2 at *
        obtain ⟨k0, k1, k2, k3, k4⟩ := Has.c4 (g := w.heap.size + 1 + 1) (x := .int .i64 0) (y := .int .i64 0) (z := .int .i64 0) (u := .int .i64 0) (t := 25) T3.out (by simp)
        obtain ⟨k5, k6, k7, k8⟩ := Has.f4 (g := w.heap.size + 1 + 1) (cs := #[.int .i64 0, .int .i64 0, .int .i64 0, .int .i64 0]) (t := 25) T3.out (by simp)
        obtain ⟨m0, m1, m4⟩ := Has.c2 (g := g1) (x := .int .i64 x) (y := .int .i64 y) (t := 23) T3.out (by simp)
        obtain ⟨n0, n1, n4⟩ := Has.c2 (g := g2) (x := .int .i64 z) (y := .int .i64 u) (t := 23) T3.out (by simp)
        have T4 := Lib.hid (Has.put4 (g := w.heap.size + 1 + 1) (x := .int .i64 0) (y := .int .i64 0) (z := .int .i64 0) (u := .int .i64 0) (t := 25) (M := [(w.heap.size, #[.int .i64 a, .int .i64 b, .int .i64 c, .int .i64 d], 25)]) T3.out (.int .i64 x) (.int .i64 y) (.int .i64 z) (.int .i64 u) (by simp) (by simp <;> omega))
        go_wp2
        refine bodyPost_ret (res_cell_tmp rfl _ _ (w.heap.size + 1 + 1) 25 #[.int .i64 x, .int .i64 y, .int .i64 z, .int .i64 u] (0, 0) _ rfl (T4.out.row (by simp)) Try.underlying25 rfl info25) rfl ?_
        exact ⟨rfl, T4.out.1⟩
      · rw [if_neg h2]
        go_enter Try.func48, Try.ntmps48
        go_wp2_with fail
        with_reducible refine ((V.out) _).mono ?_
        rintro e w1 ⟨rfl, hb⟩
        have T1 := Lib.hid (T0.out.step hb)
        clear hb T0 V
        obtain ⟨x0, x1, x2, x3, x4⟩ := Has.c4 (g := w.heap.size) (x := .int .i64 a) (y := .int .i64 b) (z := .int .i64 c) (u := .int .i64 d) (t := 25) T1.out (by simp)
        obtain ⟨y0, y1, y2, y3, y4⟩ := Has.c4 (g := w.heap.size + 1) (x := .int .i64 p) (y := .int .i64 q) (z := .int .i64 r) (u := .int .i64 s) (t := 25) T1.out (by simp)
        go_wp2_with fail
        with_reducible refine ((A1.out) _).mono ?_
        rintro e w2 ⟨rfl, hb⟩
        have T2 := Lib.hid ((T1.out.step hb).alloc #[.int .i64 x, .int .i64 y] 23)
        have g1lt : w.heap.size + 1 + 1 < w2.heap.size := Has.lt (x := (w.heap.size + 1 + 1, #[.int .i64 0, .int .i64 0, .int .i64 0, .int .i64 0], 25)) (T1.out.step hb) (by simp)
        clear hb T1 A1 x0 x1 x2 x3 x4 y0 y1 y2 y3 y4
        go_upto_region 4 with fail
        generalize w2.alloc (.cells #[.int .i64 x, .int .i64 y] 23) = yg1 at *
        generalize w2.heap.size = g1 at *
        obtain ⟨x0, x1, x2, x3, x4⟩ := Has.c4 (g := w.heap.size) (x := .int .i64 a) (y := .int .i64 b) (z := .int .i64 c) (u := .int .i64 d) (t := 25) T2.out (by simp)
        obtain ⟨y0, y1, y2, y3, y4⟩ := Has.c4 (g := w.heap.size + 1) (x := .int .i64 p) (y := .int .i64 q) (z := .int .i64 r) (u := .int .i64 s) (t := 25) T2.out (by simp)
        go_wp2_with fail
        with_reducible refine ((A2.out) _).mono ?_
        rintro e w3 ⟨rfl, hb⟩
        have T3 := Lib.hid ((T2.out.step hb).alloc #[.int .i64 z, .int .i64 u] 23)
        have g2lt : w.heap.size + 1 + 1 < w3.heap.size := Has.lt (x := (w.heap.size + 1 + 1, #[.int .i64 0, .int .i64 0, .int .i64 0, .int .i64 0], 25)) (T2.out.step hb) (by simp)
        clear hb T2 A2 x0 x1 x2 x3 x4 y0 y1 y2 y3 y4
        go_upto_region 7 with fail
        generalize w3.alloc (.cells #[.int .i64 z, .int .i64 u] 23) = yg2 at *
        generalize w3.heap.size = g2 at *
        obtain ⟨k0, k1, k2, k3, k4⟩ := Has.c4 (g := w.heap.size + 1 + 1) (x := .int .i64 0) (y := .int .i64 0) (z := .int .i64 0) (u := .int .i64 0) (t := 25) T3.out (by simp)
        obtain ⟨k5, k6, k7, k8⟩ := Has.f4 (g := w.heap.size + 1 + 1) (cs := #[.int .i64 0, .int .i64 0, .int .i64 0, .int .i64 0]) (t := 25) T3.out (by simp)
        have T4 := Lib.hid (Has.put4 (g := w.heap.size + 1 + 1) (x := .int .i64 0) (y := .int .i64 0) (z := .int .i64 0) (u := .int .i64 0) (t := 25) (M := [(w.heap.size, #[.int .i64 a, .int .i64 b, .int .i64 c, .int .i64 d], 25)]) T3.out (.int .i64 0) (.int .i64 0) (.int .i64 0) (.int .i64 0) (by simp) (by simp <;> omega))
        go_wp2
        refine bodyPost_ret (res_cell_tmp rfl _ _ (w.heap.size + 1 + 1) 25 #[.int .i64 0, .int .i64 0, .int .i64 0, .int .i64 0] (0, 0) _ rfl (T4.out.row (by simp)) Try.underlying25 rfl info25) rfl ?_
        exact ⟨rfl, T4.out.1⟩
    · rw [if_neg h1]
      go_enter Try.func48, Try.ntmps48
      go_wp2_with fail
      with_reducible refine ((V.out) _).mono ?_
      rintro e w1 ⟨rfl, hb⟩
      have T1 := Lib.hid (T0.out.step hb)
      clear hb T0 V
      obtain ⟨x0, x1, x2, x3, x4⟩ := Has.c4 (g := w.heap.size) (x := .int .i64 a) (y := .int .i64 b) (z := .int .i64 c) (u := .int .i64 d) (t := 25) T1.out (by simp)
      obtain ⟨y0, y1, y2, y3, y4⟩ := Has.c4 (g := w.heap.size + 1) (x := .int .i64 p) (y := .int .i64 q) (z := .int .i64 r) (u := .int .i64 s) (t := 25) T1.out (by simp)
      go_wp2_with fail
      with_reducible refine ((A1.out) _).mono ?_
      rintro e w2 ⟨rfl, hb⟩
      have T2 := Lib.hid ((T1.out.step hb).alloc #[.int .i64 x, .int .i64 y] 23)
      have g1lt : w.heap.size + 1 + 1 < w2.heap.size := Has.lt (x := (w.heap.size + 1 + 1, #[.int .i64 0, .int .i64 0, .int .i64 0, .int .i64 0], 25)) (T1.out.step hb) (by simp)
      clear hb T1 A1 x0 x1 x2 x3 x4 y0 y1 y2 y3 y4
      go_upto_region 4 with fail
      generalize w2.alloc (.cells #[.int .i64 x, .int .i64 y] 23) = yg1 at *
      generalize w2.heap.size = g1 at *
      obtain ⟨k0, k1, k2, k3, k4⟩ := Has.c4 (g := w.heap.size + 1 + 1) (x := .int .i64 0) (y := .int .i64 0) (z := .int .i64 0) (u := .int .i64 0) (t := 25) T2.out (by simp)
      obtain ⟨k5, k6, k7, k8⟩ := Has.f4 (g := w.heap.size + 1 + 1) (cs := #[.int .i64 0, .int .i64 0, .int .i64 0, .int .i64 0]) (t := 25) T2.out (by simp)
      have T3 := Lib.hid (Has.put4 (g := w.heap.size + 1 + 1) (x := .int .i64 0) (y := .int .i64 0) (z := .int .i64 0) (u := .int .i64 0) (t := 25) (M := [(w.heap.size, #[.int .i64 a, .int .i64 b, .int .i64 c, .int .i64 d], 25)]) T2.out (.int .i64 0) (.int .i64 0) (.int .i64 0) (.int .i64 0) (by simp) (by simp <;> omega))
      go_wp2
      refine bodyPost_ret (res_cell_tmp rfl _ _ (w.heap.size + 1 + 1) 25 #[.int .i64 0, .int .i64 0, .int .i64 0, .int .i64 0] (0, 0) _ rfl (T3.out.row (by simp)) Try.underlying25 rfl info25) rfl ?_
      exact ⟨rfl, T3.out.1⟩
end Go.Proofs.Ytbiegbnncnjnmaa.Iv
