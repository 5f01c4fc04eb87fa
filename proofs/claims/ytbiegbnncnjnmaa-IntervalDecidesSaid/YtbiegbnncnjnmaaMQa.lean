/- The program's functions of layer 4 (interval): Check, valid, Point, Contains, Width. The program's functions of layer 4 (interval): lesser, greater, Min, Max, Add. -/
import Derived.Test.YtbiegbnncnjnmaaMIb
set_option linter.unusedVariables false
set_option linter.unusedSimpArgs false
namespace Go.Proofs.Ytbiegbnncnjnmaa.Iv
open Go.RowKit
open Go.Proofs.Ytbiegbnncnjnmaa.Pro

set_option maxHeartbeats 1000000 in
theorem pcheck_raw (a b c d c1 c2 m : Int)
    (K1 : Hid (∀ w : World, Calls Try.prog 36 #[.agg #[.int .i64 a, .int .i64 b]] w fun e w' => e = .returned (.int .i64 c1) ∧ Below w.heap.size w w'))
    (K2 : Hid (∀ w : World, Calls Try.prog 36 #[.agg #[.int .i64 c, .int .i64 d]] w fun e w' => e = .returned (.int .i64 c2) ∧ Below w.heap.size w w'))
    (M : Hid (∀ w : World, Calls Try.prog 37 #[.agg #[.int .i64 a, .int .i64 b], .agg #[.int .i64 c, .int .i64 d]] w fun e w' => e = .returned (.int .i64 m) ∧ Below w.heap.size w w'))
    (w : World) : Calls Try.prog 13 #[.agg #[.int .i64 a, .int .i64 b, .int .i64 c, .int .i64 d]] w fun e w' => e = .returned (.int .i64 (if c1 = 0 ∧ c2 = 0 then (if 0 < m then 9 else 0) else 1)) ∧ Below w.heap.size w w' := by
  have T0 := Lib.hid ((Has.start w).alloc #[.int .i64 a, .int .i64 b, .int .i64 c, .int .i64 d] 25)
  by_cases h1 : c1 = 0
  · by_cases h2 : c2 = 0
    · subst h1 h2
      by_cases h3 : 0 < m
      · rw [if_pos ⟨rfl, rfl⟩, if_pos h3]
        go_enter Try.func13, Try.ntmps13
        go_wp2_with fail
        with_reducible refine ((K1.out) _).mono ?_
        rintro e w1 ⟨rfl, hb⟩
        have T1 := Lib.hid (T0.out.step hb)
        clear hb T0 K1
        obtain ⟨x0, x1, x2, x3, x4⟩ := Has.c4 (g := w.heap.size) (x := .int .i64 a) (y := .int .i64 b) (z := .int .i64 c) (u := .int .i64 d) (t := 25) T1.out (by simp)
        go_wp2_with fail
        with_reducible refine ((K2.out) _).mono ?_
        rintro e w2 ⟨rfl, hb⟩
        have T2 := Lib.hid (T1.out.step hb)
        clear hb T1 K2 x0 x1 x2 x3 x4
        obtain ⟨x0, x1, x2, x3, x4⟩ := Has.c4 (g := w.heap.size) (x := .int .i64 a) (y := .int .i64 b) (z := .int .i64 c) (u := .int .i64 d) (t := 25) T2.out (by simp)
        go_wp2_with fail
        with_reducible refine ((M.out) _).mono ?_
        rintro e w3 ⟨rfl, hb⟩
        have T3 := Lib.hid (T2.out.step hb)
        clear hb T2 M x0 x1 x2 x3 x4
        go_wp2
        go_ret
        refine ⟨?_, T3.out.1⟩
        first | rfl | (simp [*]; done)
      · rw [if_pos ⟨rfl, rfl⟩, if_neg h3]
        go_enter Try.func13, Try.ntmps13
        go_wp2_with fail
        with_reducible refine ((K1.out) _).mono ?_
        rintro e w1 ⟨rfl, hb⟩
        have T1 := Lib.hid (T0.out.step hb)
        clear hb T0 K1
        obtain ⟨x0, x1, x2, x3, x4⟩ := Has.c4 (g := w.heap.size) (x := .int .i64 a) (y := .int .i64 b) (z := .int .i64 c) (u := .int .i64 d) (t := 25) T1.out (by simp)
        go_wp2_with fail
        with_reducible refine ((K2.out) _).mono ?_
        rintro e w2 ⟨rfl, hb⟩
        have T2 := Lib.hid (T1.out.step hb)
        clear hb T1 K2 x0 x1 x2 x3 x4
        obtain ⟨x0, x1, x2, x3, x4⟩ := Has.c4 (g := w.heap.size) (x := .int .i64 a) (y := .int .i64 b) (z := .int .i64 c) (u := .int .i64 d) (t := 25) T2.out (by simp)
        go_wp2_with fail
        with_reducible refine ((M.out) _).mono ?_
        rintro e w3 ⟨rfl, hb⟩
        have T3 := Lib.hid (T2.out.step hb)
        clear hb T2 M x0 x1 x2 x3 x4
        go_wp2
        go_ret
        refine ⟨?_, T3.out.1⟩
        first | rfl | (simp [*]; done)
    · subst h1
      rw [if_neg (fun x => h2 x.2)]
      go_enter Try.func13, Try.ntmps13
      go_wp2_with fail
      with_reducible refine ((K1.out) _).mono ?_
      rintro e w1 ⟨rfl, hb⟩
      have T1 := Lib.hid (T0.out.step hb)
      clear hb T0 K1
      obtain ⟨x0, x1, x2, x3, x4⟩ := Has.c4 (g := w.heap.size) (x := .int .i64 a) (y := .int .i64 b) (z := .int .i64 c) (u := .int .i64 d) (t := 25) T1.out (by simp)
      go_wp2_with fail
      with_reducible refine ((K2.out) _).mono ?_
      rintro e w2 ⟨rfl, hb⟩
      have T2 := Lib.hid (T1.out.step hb)
      clear hb T1 K2 x0 x1 x2 x3 x4
      go_wp2
      go_ret
      refine ⟨?_, T2.out.1⟩
      first | rfl | (simp [*]; done)
  · rw [if_neg (fun x => h1 x.1)]
    go_enter Try.func13, Try.ntmps13
    go_wp2_with fail
    with_reducible refine ((K1.out) _).mono ?_
    rintro e w1 ⟨rfl, hb⟩
    have T1 := Lib.hid (T0.out.step hb)
    clear hb T0 K1
    go_wp2
    go_ret
    refine ⟨?_, T1.out.1⟩
    first | rfl | (simp [*]; done)
set_option maxHeartbeats 1000000 in
theorem pvalid_raw (a b c d p q r s e1 e2 : Int)
    (K1 : Hid (∀ w : World, Calls Try.prog 13 #[.agg #[.int .i64 a, .int .i64 b, .int .i64 c, .int .i64 d]] w fun e w' => e = .returned (.int .i64 e1) ∧ Below w.heap.size w w'))
    (K2 : Hid (∀ w : World, Calls Try.prog 13 #[.agg #[.int .i64 p, .int .i64 q, .int .i64 r, .int .i64 s]] w fun e w' => e = .returned (.int .i64 e2) ∧ Below w.heap.size w w'))
    (w : World) : Calls Try.prog 40 #[.agg #[.int .i64 a, .int .i64 b, .int .i64 c, .int .i64 d], .agg #[.int .i64 p, .int .i64 q, .int .i64 r, .int .i64 s]] w fun e w' => e = .returned (.bool (decide (e1 = 0 ∧ e2 = 0))) ∧ Below w.heap.size w w' := by
  have T0 := Lib.hid (two0 w #[.int .i64 a, .int .i64 b, .int .i64 c, .int .i64 d] #[.int .i64 p, .int .i64 q, .int .i64 r, .int .i64 s] 25 25)
  by_cases h1 : e1 = 0
  · subst h1
    by_cases h2 : e2 = 0
    · rw [decide_eq_true ⟨rfl, h2⟩]
      go_enter Try.func40, Try.ntmps40
      go_wp2_with fail
      with_reducible refine ((K1.out) _).mono ?_
      rintro e w1 ⟨rfl, hb⟩
      have T1 := Lib.hid (T0.out.step hb)
      clear hb T0 K1
      obtain ⟨x0, x1, x2, x3, x4⟩ := Has.c4 (g := w.heap.size + 1) (x := .int .i64 p) (y := .int .i64 q) (z := .int .i64 r) (u := .int .i64 s) (t := 25) T1.out (by simp)
      go_wp2_with fail
      with_reducible refine ((K2.out) _).mono ?_
      rintro e w2 ⟨rfl, hb⟩
      have T2 := Lib.hid (T1.out.step hb)
      clear hb T1 K2 x0 x1 x2 x3 x4
      go_wp2
      go_ret
      refine ⟨?_, T2.out.1⟩
      first | rfl | (simp [*]; done)
    · rw [decide_eq_false (fun x => h2 x.2)]
      go_enter Try.func40, Try.ntmps40
      go_wp2_with fail
      with_reducible refine ((K1.out) _).mono ?_
      rintro e w1 ⟨rfl, hb⟩
      have T1 := Lib.hid (T0.out.step hb)
      clear hb T0 K1
      obtain ⟨x0, x1, x2, x3, x4⟩ := Has.c4 (g := w.heap.size + 1) (x := .int .i64 p) (y := .int .i64 q) (z := .int .i64 r) (u := .int .i64 s) (t := 25) T1.out (by simp)
      go_wp2_with fail
      with_reducible refine ((K2.out) _).mono ?_
      rintro e w2 ⟨rfl, hb⟩
      have T2 := Lib.hid (T1.out.step hb)
      clear hb T1 K2 x0 x1 x2 x3 x4
      go_wp2
      go_ret
      refine ⟨?_, T2.out.1⟩
      first | rfl | (simp [*]; done)
  · rw [decide_eq_false (fun x => h1 x.1)]
    go_enter Try.func40, Try.ntmps40
    go_wp2_with fail
    with_reducible refine ((K1.out) _).mono ?_
    rintro e w1 ⟨rfl, hb⟩
    have T1 := Lib.hid (T0.out.step hb)
    clear hb T0 K1
    go_wp2
    go_ret
    refine ⟨?_, T1.out.1⟩
    first | rfl | (simp [*]; done)
set_option maxHeartbeats 1000000 in
theorem ppoint_raw (a b : Int) (w : World) : Calls Try.prog 15 #[.agg #[.int .i64 a, .int .i64 b]] w fun e w' => e = .returned (.agg #[.int .i64 a, .int .i64 b, .int .i64 a, .int .i64 b]) ∧ Below w.heap.size w w' := by
  have T0 := Lib.hid (two0 w #[.int .i64 a, .int .i64 b] #[.int .i64 a, .int .i64 b, .int .i64 a, .int .i64 b] 23 25)
  go_enter Try.func15, Try.ntmps15
  go_wp2
  refine bodyPost_ret (results_cell_row rfl _ _ (w.heap.size + 1) 25 #[.int .i64 a, .int .i64 b, .int .i64 a, .int .i64 b] (0, 0) _ rfl (T0.out.row (by simp)) Try.underlying25 rfl (by kernel_rfl)) rfl ?_
  exact ⟨rfl, T0.out.1⟩
set_option maxHeartbeats 1000000 in
theorem pcontains_raw (a b c d p q r s m1 m2 : Int) (v : Bool)
    (V : Hid (∀ w : World, Calls Try.prog 40 #[.agg #[.int .i64 a, .int .i64 b, .int .i64 c, .int .i64 d], .agg #[.int .i64 p, .int .i64 q, .int .i64 r, .int .i64 s]] w fun e w' => e = .returned (.bool v) ∧ Below w.heap.size w w'))
    (M1 : Hid (∀ w : World, Calls Try.prog 37 #[.agg #[.int .i64 a, .int .i64 b], .agg #[.int .i64 p, .int .i64 q]] w fun e w' => e = .returned (.int .i64 m1) ∧ Below w.heap.size w w'))
    (M2 : Hid (∀ w : World, Calls Try.prog 37 #[.agg #[.int .i64 r, .int .i64 s], .agg #[.int .i64 c, .int .i64 d]] w fun e w' => e = .returned (.int .i64 m2) ∧ Below w.heap.size w w'))
    (w : World) : Calls Try.prog 17 #[.agg #[.int .i64 a, .int .i64 b, .int .i64 c, .int .i64 d], .agg #[.int .i64 p, .int .i64 q, .int .i64 r, .int .i64 s]] w fun e w' => e = .returned (.bool (v && decide (m1 ≤ 0) && decide (m2 ≤ 0))) ∧ Below w.heap.size w w' := by
  have T0 := Lib.hid (two0 w #[.int .i64 a, .int .i64 b, .int .i64 c, .int .i64 d] #[.int .i64 p, .int .i64 q, .int .i64 r, .int .i64 s] 25 25)
  cases v with
  | false =>
    go_enter Try.func17, Try.ntmps17
    go_wp2_with fail
    with_reducible refine ((V.out) _).mono ?_
    rintro e w1 ⟨rfl, hb⟩
    have T1 := Lib.hid (T0.out.step hb)
    clear hb T0 V
    go_wp2
    go_ret
    refine ⟨?_, T1.out.1⟩
    first | rfl | (simp [*]; done)
  | true =>
    by_cases h1 : m1 ≤ 0
    · by_cases h2 : m2 ≤ 0
      · rw [decide_eq_true h1, decide_eq_true h2]
        go_enter Try.func17, Try.ntmps17
        go_wp2_with fail
        with_reducible refine ((V.out) _).mono ?_
        rintro e w1 ⟨rfl, hb⟩
        have T1 := Lib.hid (T0.out.step hb)
        clear hb T0 V
        obtain ⟨x0, x1, x2, x3, x4⟩ := Has.c4 (g := w.heap.size) (x := .int .i64 a) (y := .int .i64 b) (z := .int .i64 c) (u := .int .i64 d) (t := 25) T1.out (by simp)
        obtain ⟨y0, y1, y2, y3, y4⟩ := Has.c4 (g := w.heap.size + 1) (x := .int .i64 p) (y := .int .i64 q) (z := .int .i64 r) (u := .int .i64 s) (t := 25) T1.out (by simp)
        go_wp2_with fail
        with_reducible refine ((M1.out) _).mono ?_
        rintro e w2 ⟨rfl, hb⟩
        have T2 := Lib.hid (T1.out.step hb)
        clear hb T1 M1 x0 x1 x2 x3 x4 y0 y1 y2 y3 y4
        obtain ⟨x0, x1, x2, x3, x4⟩ := Has.c4 (g := w.heap.size) (x := .int .i64 a) (y := .int .i64 b) (z := .int .i64 c) (u := .int .i64 d) (t := 25) T2.out (by simp)
        obtain ⟨y0, y1, y2, y3, y4⟩ := Has.c4 (g := w.heap.size + 1) (x := .int .i64 p) (y := .int .i64 q) (z := .int .i64 r) (u := .int .i64 s) (t := 25) T2.out (by simp)
        go_wp2_with fail
        with_reducible refine ((M2.out) _).mono ?_
        rintro e w3 ⟨rfl, hb⟩
        have T3 := Lib.hid (T2.out.step hb)
        clear hb T2 M2 x0 x1 x2 x3 x4 y0 y1 y2 y3 y4
        go_wp2
        go_ret
        refine ⟨?_, T3.out.1⟩
        first | rfl | (simp [*]; done)
      · rw [decide_eq_true h1, decide_eq_false h2]
        go_enter Try.func17, Try.ntmps17
        go_wp2_with fail
        with_reducible refine ((V.out) _).mono ?_
        rintro e w1 ⟨rfl, hb⟩
        have T1 := Lib.hid (T0.out.step hb)
        clear hb T0 V
        obtain ⟨x0, x1, x2, x3, x4⟩ := Has.c4 (g := w.heap.size) (x := .int .i64 a) (y := .int .i64 b) (z := .int .i64 c) (u := .int .i64 d) (t := 25) T1.out (by simp)
        obtain ⟨y0, y1, y2, y3, y4⟩ := Has.c4 (g := w.heap.size + 1) (x := .int .i64 p) (y := .int .i64 q) (z := .int .i64 r) (u := .int .i64 s) (t := 25) T1.out (by simp)
        go_wp2_with fail
        with_reducible refine ((M1.out) _).mono ?_
        rintro e w2 ⟨rfl, hb⟩
        have T2 := Lib.hid (T1.out.step hb)
        clear hb T1 M1 x0 x1 x2 x3 x4 y0 y1 y2 y3 y4
        obtain ⟨x0, x1, x2, x3, x4⟩ := Has.c4 (g := w.heap.size) (x := .int .i64 a) (y := .int .i64 b) (z := .int .i64 c) (u := .int .i64 d) (t := 25) T2.out (by simp)
        obtain ⟨y0, y1, y2, y3, y4⟩ := Has.c4 (g := w.heap.size + 1) (x := .int .i64 p) (y := .int .i64 q) (z := .int .i64 r) (u := .int .i64 s) (t := 25) T2.out (by simp)
        go_wp2_with fail
        with_reducible refine ((M2.out) _).mono ?_
        rintro e w3 ⟨rfl, hb⟩
        have T3 := Lib.hid (T2.out.step hb)
        clear hb T2 M2 x0 x1 x2 x3 x4 y0 y1 y2 y3 y4
        go_wp2
        go_ret
        refine ⟨?_, T3.out.1⟩
        first | rfl | (simp [*]; done)
    · rw [decide_eq_false h1]
      go_enter Try.func17, Try.ntmps17
      go_wp2_with fail
      with_reducible refine ((V.out) _).mono ?_
      rintro e w1 ⟨rfl, hb⟩
      have T1 := Lib.hid (T0.out.step hb)
      clear hb T0 V
      obtain ⟨x0, x1, x2, x3, x4⟩ := Has.c4 (g := w.heap.size) (x := .int .i64 a) (y := .int .i64 b) (z := .int .i64 c) (u := .int .i64 d) (t := 25) T1.out (by simp)
      obtain ⟨y0, y1, y2, y3, y4⟩ := Has.c4 (g := w.heap.size + 1) (x := .int .i64 p) (y := .int .i64 q) (z := .int .i64 r) (u := .int .i64 s) (t := 25) T1.out (by simp)
      go_wp2_with fail
      with_reducible refine ((M1.out) _).mono ?_
      rintro e w2 ⟨rfl, hb⟩
      have T2 := Lib.hid (T1.out.step hb)
      clear hb T1 M1 x0 x1 x2 x3 x4 y0 y1 y2 y3 y4
      go_wp2
      go_ret
      refine ⟨?_, T2.out.1⟩
      first | rfl | (simp [*]; done)
set_option maxHeartbeats 1000000 in
theorem pwidth_raw (a b c d ev x y z : Int)
    (K : Hid (∀ w : World, Calls Try.prog 13 #[.agg #[.int .i64 a, .int .i64 b, .int .i64 c, .int .i64 d]] w fun e w' => e = .returned (.int .i64 ev) ∧ Below w.heap.size w w'))
    (D : Hid (∀ w : World, Calls Try.prog 34 #[.agg #[.int .i64 c, .int .i64 d], .agg #[.int .i64 a, .int .i64 b]] w fun e w' => e = .returned (.tuple #[.agg #[.int .i64 x, .int .i64 y], .int .i64 z]) ∧ Below w.heap.size w w'))
    (w : World) : Calls Try.prog 11 #[.agg #[.int .i64 a, .int .i64 b, .int .i64 c, .int .i64 d]] w fun e w' => e = .returned (if ev = 0 then .tuple #[.agg #[.int .i64 x, .int .i64 y], .int .i64 z] else .tuple #[.agg #[.int .i64 0, .int .i64 0], .int .i64 1]) ∧ Below w.heap.size w w' := by
  have T0 := Lib.hid (two0 w #[.int .i64 a, .int .i64 b, .int .i64 c, .int .i64 d] #[.int .i64 0, .int .i64 0] 25 23)
  by_cases h1 : ev = 0
  · rw [if_pos h1]
    subst h1
    go_enter Try.func11, Try.ntmps11
    go_wp2_with fail
    with_reducible refine ((K.out) _).mono ?_
    rintro e w1 ⟨rfl, hb⟩
    have T1 := Lib.hid (T0.out.step hb)
    clear hb T0 K
    obtain ⟨x0, x1, x2, x3, x4⟩ := Has.c4 (g := w.heap.size) (x := .int .i64 a) (y := .int .i64 b) (z := .int .i64 c) (u := .int .i64 d) (t := 25) T1.out (by simp)
    go_wp2_with fail
    with_reducible refine ((D.out) _).mono ?_
    rintro e w2 ⟨rfl, hb⟩
    have T2 := Lib.hid (T1.out.step hb)
    clear hb T1 D x0 x1 x2 x3 x4
    obtain ⟨z0, z1, z4⟩ := Has.c2 (g := w.heap.size + 1) (x := .int .i64 0) (y := .int .i64 0) (t := 23) T2.out (by simp)
    obtain ⟨z5, z6⟩ := frozen2 (T2.out.row (b := w.heap.size + 1) (cs := #[.int .i64 0, .int .i64 0]) (t := 23) (by simp))
    have T3 := Lib.hid (Has.put2 (g := w.heap.size + 1) (x := .int .i64 0) (y := .int .i64 0) (t := 23) (M := [(w.heap.size, #[.int .i64 a, .int .i64 b, .int .i64 c, .int .i64 d], 25)]) T2.out (.int .i64 x) (.int .i64 y) (by simp) (by simp <;> omega))
    go_wp2
    refine bodyPost_ret (res_cell_tmp rfl _ _ (w.heap.size + 1) 23 #[.int .i64 x, .int .i64 y] (0, 0) _ rfl (T3.out.row (by simp)) Try.underlying23 rfl info23) rfl ?_
    exact ⟨rfl, T3.out.1⟩
  · rw [if_neg h1]
    go_enter Try.func11, Try.ntmps11
    go_wp2_with fail
    with_reducible refine ((K.out) _).mono ?_
    rintro e w1 ⟨rfl, hb⟩
    have T1 := Lib.hid (T0.out.step hb)
    clear hb T0 K
    obtain ⟨z0, z1, z4⟩ := Has.c2 (g := w.heap.size + 1) (x := .int .i64 0) (y := .int .i64 0) (t := 23) T1.out (by simp)
    obtain ⟨z5, z6⟩ := frozen2 (T1.out.row (b := w.heap.size + 1) (cs := #[.int .i64 0, .int .i64 0]) (t := 23) (by simp))
    have T3 := Lib.hid (Has.put2 (g := w.heap.size + 1) (x := .int .i64 0) (y := .int .i64 0) (t := 23) (M := [(w.heap.size, #[.int .i64 a, .int .i64 b, .int .i64 c, .int .i64 d], 25)]) T1.out (.int .i64 0) (.int .i64 0) (by simp) (by simp <;> omega))
    go_wp2
    refine bodyPost_ret (res_cell_tmp rfl _ _ (w.heap.size + 1) 23 #[.int .i64 0, .int .i64 0] (0, 0) _ rfl (T3.out.row (by simp)) Try.underlying23 rfl info23) rfl ?_
    exact ⟨rfl, T3.out.1⟩
end Go.Proofs.Ytbiegbnncnjnmaa.Iv
namespace Go.Proofs.Ytbiegbnncnjnmaa.Iv
open Go.RowKit
open Go.Proofs.Ytbiegbnncnjnmaa.Pro

set_option maxHeartbeats 1000000 in
theorem plesser_raw (a b p q m : Int)
    (M : Hid (∀ w : World, Calls Try.prog 37 #[.agg #[.int .i64 a, .int .i64 b], .agg #[.int .i64 p, .int .i64 q]] w fun e w' => e = .returned (.int .i64 m) ∧ Below w.heap.size w w'))
    (w : World) : Calls Try.prog 51 #[.agg #[.int .i64 a, .int .i64 b], .agg #[.int .i64 p, .int .i64 q]] w fun e w' => e = .returned (.agg #[.int .i64 (if m < 0 then a else p), .int .i64 (if m < 0 then b else q)]) ∧ Below w.heap.size w w' := by
  have T0 := Lib.hid (three0 w #[.int .i64 a, .int .i64 b] #[.int .i64 p, .int .i64 q] #[.int .i64 0, .int .i64 0] 23 23 23)
  by_cases h1 : m < 0
  · rw [if_pos h1, if_pos h1]
    go_enter Try.func51, Try.ntmps51
    go_wp2_with fail
    with_reducible refine ((M.out) _).mono ?_
    rintro e w1 ⟨rfl, hb⟩
    have T1 := Lib.hid (T0.out.step hb)
    clear hb T0 M
    obtain ⟨x0, x1, x4⟩ := Has.c2 (g := w.heap.size) (x := .int .i64 a) (y := .int .i64 b) (t := 23) T1.out (by simp)
    obtain ⟨y0, y1, y4⟩ := Has.c2 (g := w.heap.size + 1) (x := .int .i64 p) (y := .int .i64 q) (t := 23) T1.out (by simp)
    obtain ⟨z0, z1, z4⟩ := Has.c2 (g := w.heap.size + 1 + 1) (x := .int .i64 0) (y := .int .i64 0) (t := 23) T1.out (by simp)
    obtain ⟨z5, z6⟩ := frozen2 (T1.out.row (b := w.heap.size + 1 + 1) (cs := #[.int .i64 0, .int .i64 0]) (t := 23) (by simp))
    have T2 := Lib.hid (Has.put2 (g := w.heap.size + 1 + 1) (x := .int .i64 0) (y := .int .i64 0) (t := 23) (M := [(w.heap.size, #[.int .i64 a, .int .i64 b], 23)]) T1.out (.int .i64 a) (.int .i64 b) (by simp) (by simp <;> omega))
    go_wp2
    refine bodyPost_ret (results_cell_row rfl _ _ (w.heap.size + 1 + 1) 23 #[.int .i64 a, .int .i64 b] (0, 0) _ rfl (T2.out.row (by simp)) Try.underlying23 rfl info23) rfl ?_
    exact ⟨rfl, T2.out.1⟩
  · rw [if_neg h1, if_neg h1]
    go_enter Try.func51, Try.ntmps51
    go_wp2_with fail
    with_reducible refine ((M.out) _).mono ?_
    rintro e w1 ⟨rfl, hb⟩
    have T1 := Lib.hid (T0.out.step hb)
    clear hb T0 M
    obtain ⟨x0, x1, x4⟩ := Has.c2 (g := w.heap.size) (x := .int .i64 a) (y := .int .i64 b) (t := 23) T1.out (by simp)
    obtain ⟨y0, y1, y4⟩ := Has.c2 (g := w.heap.size + 1) (x := .int .i64 p) (y := .int .i64 q) (t := 23) T1.out (by simp)
    obtain ⟨z0, z1, z4⟩ := Has.c2 (g := w.heap.size + 1 + 1) (x := .int .i64 0) (y := .int .i64 0) (t := 23) T1.out (by simp)
    obtain ⟨z5, z6⟩ := frozen2 (T1.out.row (b := w.heap.size + 1 + 1) (cs := #[.int .i64 0, .int .i64 0]) (t := 23) (by simp))
    have T2 := Lib.hid (Has.put2 (g := w.heap.size + 1 + 1) (x := .int .i64 0) (y := .int .i64 0) (t := 23) (M := [(w.heap.size, #[.int .i64 a, .int .i64 b], 23)]) T1.out (.int .i64 p) (.int .i64 q) (by simp) (by simp <;> omega))
    go_wp2
    refine bodyPost_ret (results_cell_row rfl _ _ (w.heap.size + 1 + 1) 23 #[.int .i64 p, .int .i64 q] (0, 0) _ rfl (T2.out.row (by simp)) Try.underlying23 rfl info23) rfl ?_
    exact ⟨rfl, T2.out.1⟩
set_option maxHeartbeats 1000000 in
theorem pgreater_raw (a b p q m : Int)
    (M : Hid (∀ w : World, Calls Try.prog 37 #[.agg #[.int .i64 a, .int .i64 b], .agg #[.int .i64 p, .int .i64 q]] w fun e w' => e = .returned (.int .i64 m) ∧ Below w.heap.size w w'))
    (w : World) : Calls Try.prog 52 #[.agg #[.int .i64 a, .int .i64 b], .agg #[.int .i64 p, .int .i64 q]] w fun e w' => e = .returned (.agg #[.int .i64 (if 0 < m then a else p), .int .i64 (if 0 < m then b else q)]) ∧ Below w.heap.size w w' := by
  have T0 := Lib.hid (three0 w #[.int .i64 a, .int .i64 b] #[.int .i64 p, .int .i64 q] #[.int .i64 0, .int .i64 0] 23 23 23)
  by_cases h1 : 0 < m
  · rw [if_pos h1, if_pos h1]
    go_enter Try.func52, Try.ntmps52
    go_wp2_with fail
    with_reducible refine ((M.out) _).mono ?_
    rintro e w1 ⟨rfl, hb⟩
    have T1 := Lib.hid (T0.out.step hb)
    clear hb T0 M
    obtain ⟨x0, x1, x4⟩ := Has.c2 (g := w.heap.size) (x := .int .i64 a) (y := .int .i64 b) (t := 23) T1.out (by simp)
    obtain ⟨y0, y1, y4⟩ := Has.c2 (g := w.heap.size + 1) (x := .int .i64 p) (y := .int .i64 q) (t := 23) T1.out (by simp)
    obtain ⟨z0, z1, z4⟩ := Has.c2 (g := w.heap.size + 1 + 1) (x := .int .i64 0) (y := .int .i64 0) (t := 23) T1.out (by simp)
    obtain ⟨z5, z6⟩ := frozen2 (T1.out.row (b := w.heap.size + 1 + 1) (cs := #[.int .i64 0, .int .i64 0]) (t := 23) (by simp))
    have T2 := Lib.hid (Has.put2 (g := w.heap.size + 1 + 1) (x := .int .i64 0) (y := .int .i64 0) (t := 23) (M := [(w.heap.size, #[.int .i64 a, .int .i64 b], 23)]) T1.out (.int .i64 a) (.int .i64 b) (by simp) (by simp <;> omega))
    go_wp2
    refine bodyPost_ret (results_cell_row rfl _ _ (w.heap.size + 1 + 1) 23 #[.int .i64 a, .int .i64 b] (0, 0) _ rfl (T2.out.row (by simp)) Try.underlying23 rfl info23) rfl ?_
    exact ⟨rfl, T2.out.1⟩
  · rw [if_neg h1, if_neg h1]
    go_enter Try.func52, Try.ntmps52
    go_wp2_with fail
    with_reducible refine ((M.out) _).mono ?_
    rintro e w1 ⟨rfl, hb⟩
    have T1 := Lib.hid (T0.out.step hb)
    clear hb T0 M
    obtain ⟨x0, x1, x4⟩ := Has.c2 (g := w.heap.size) (x := .int .i64 a) (y := .int .i64 b) (t := 23) T1.out (by simp)
    obtain ⟨y0, y1, y4⟩ := Has.c2 (g := w.heap.size + 1) (x := .int .i64 p) (y := .int .i64 q) (t := 23) T1.out (by simp)
    obtain ⟨z0, z1, z4⟩ := Has.c2 (g := w.heap.size + 1 + 1) (x := .int .i64 0) (y := .int .i64 0) (t := 23) T1.out (by simp)
    obtain ⟨z5, z6⟩ := frozen2 (T1.out.row (b := w.heap.size + 1 + 1) (cs := #[.int .i64 0, .int .i64 0]) (t := 23) (by simp))
    have T2 := Lib.hid (Has.put2 (g := w.heap.size + 1 + 1) (x := .int .i64 0) (y := .int .i64 0) (t := 23) (M := [(w.heap.size, #[.int .i64 a, .int .i64 b], 23)]) T1.out (.int .i64 p) (.int .i64 q) (by simp) (by simp <;> omega))
    go_wp2
    refine bodyPost_ret (results_cell_row rfl _ _ (w.heap.size + 1 + 1) 23 #[.int .i64 p, .int .i64 q] (0, 0) _ rfl (T2.out.row (by simp)) Try.underlying23 rfl info23) rfl ?_
    exact ⟨rfl, T2.out.1⟩
set_option maxHeartbeats 1000000 in
theorem pmin_raw (a b c d p q r s x y z u : Int) (v : Bool)
    (V : Hid (∀ w : World, Calls Try.prog 40 #[.agg #[.int .i64 a, .int .i64 b, .int .i64 c, .int .i64 d], .agg #[.int .i64 p, .int .i64 q, .int .i64 r, .int .i64 s]] w fun e w' => e = .returned (.bool v) ∧ Below w.heap.size w w'))
    (M1 : Hid (∀ w : World, Calls Try.prog 51 #[.agg #[.int .i64 a, .int .i64 b], .agg #[.int .i64 p, .int .i64 q]] w fun e w' => e = .returned (.agg #[.int .i64 x, .int .i64 y]) ∧ Below w.heap.size w w'))
    (M2 : Hid (∀ w : World, Calls Try.prog 51 #[.agg #[.int .i64 c, .int .i64 d], .agg #[.int .i64 r, .int .i64 s]] w fun e w' => e = .returned (.agg #[.int .i64 z, .int .i64 u]) ∧ Below w.heap.size w w'))
    (w : World) : Calls Try.prog 24 #[.agg #[.int .i64 a, .int .i64 b, .int .i64 c, .int .i64 d], .agg #[.int .i64 p, .int .i64 q, .int .i64 r, .int .i64 s]] w fun e w' => e = .returned (if v = true then .agg #[.int .i64 x, .int .i64 y, .int .i64 z, .int .i64 u] else .agg #[.int .i64 0, .int .i64 0, .int .i64 0, .int .i64 0]) ∧ Below w.heap.size w w' := by
  have T0 := Lib.hid (three0 w #[.int .i64 a, .int .i64 b, .int .i64 c, .int .i64 d] #[.int .i64 p, .int .i64 q, .int .i64 r, .int .i64 s] #[.int .i64 0, .int .i64 0, .int .i64 0, .int .i64 0] 25 25 25)
  cases v with
  | false =>
    rw [if_neg (by decide)]
    go_enter Try.func24, Try.ntmps24
    go_wp2_with fail
    with_reducible refine ((V.out) _).mono ?_
    rintro e w1 ⟨rfl, hb⟩
    have T1 := Lib.hid (T0.out.step hb)
    clear hb T0 V
    obtain ⟨k0, k1, k2, k3, k4⟩ := Has.c4 (g := w.heap.size + 1 + 1) (x := .int .i64 0) (y := .int .i64 0) (z := .int .i64 0) (u := .int .i64 0) (t := 25) T1.out (by simp)
    obtain ⟨k5, k6, k7, k8⟩ := Has.f4 (g := w.heap.size + 1 + 1) (cs := #[.int .i64 0, .int .i64 0, .int .i64 0, .int .i64 0]) (t := 25) T1.out (by simp)
    have T2 := Lib.hid (Has.put4 (g := w.heap.size + 1 + 1) (x := .int .i64 0) (y := .int .i64 0) (z := .int .i64 0) (u := .int .i64 0) (t := 25) (M := [(w.heap.size, #[.int .i64 a, .int .i64 b, .int .i64 c, .int .i64 d], 25)]) T1.out (.int .i64 0) (.int .i64 0) (.int .i64 0) (.int .i64 0) (by simp) (by simp <;> omega))
    go_wp2
    refine bodyPost_ret (results_cell_row rfl _ _ (w.heap.size + 1 + 1) 25 #[.int .i64 0, .int .i64 0, .int .i64 0, .int .i64 0] (0, 0) _ rfl (T2.out.row (by simp)) Try.underlying25 rfl info25) rfl ?_
    exact ⟨rfl, T2.out.1⟩
  | true =>
    rw [if_pos rfl]
    go_enter Try.func24, Try.ntmps24
    go_wp2_with fail
    with_reducible refine ((V.out) _).mono ?_
    rintro e w1 ⟨rfl, hb⟩
    have T1 := Lib.hid (T0.out.step hb)
    clear hb T0 V
    go_upto_region 3 with fail
    have TD := Lib.hid T1.out.drew
    refine wp_region_held_drew (S := (fun V => XY w a b c d p q r s V ∧ (V.cell? ⟨w.heap.size, 0, none⟩ = some (.int .i64 a) ∧ V.cell? ⟨w.heap.size, 1, none⟩ = some (.int .i64 b) ∧ V.cell? ⟨w.heap.size, 2, none⟩ = some (.int .i64 c) ∧ V.cell? ⟨w.heap.size, 3, none⟩ = some (.int .i64 d)) ∧ V.cell? ⟨w.heap.size + 1, 0, none⟩ = some (.int .i64 p) ∧ V.cell? ⟨w.heap.size + 1, 1, none⟩ = some (.int .i64 q) ∧ V.cell? ⟨w.heap.size + 1, 2, none⟩ = some (.int .i64 r) ∧ V.cell? ⟨w.heap.size + 1, 3, none⟩ = some (.int .i64 s))) (by kernel_rfl) (XY.all (Has.xy TD.out (by simp))) (fun hHeld => ?_)
    refine wpAnyH_take (i := 0) (v := _) rfl (by kernel_rfl) (by kernel_rfl) (by kernel_rfl) (fun _ _ _ h => h) (Or.inl ⟨by rfl, by intro w hSw; (try dsimp only at hSw); go_simp; try (with_reducible rfl)⟩) (by assumption) ?_
    try simp only [Act.put, List.setIfInBounds_toArray, List.set_cons_zero, List.set_cons_succ]
    refine wpAnyH_take (i := 1) (v := _) rfl (by kernel_rfl) (by kernel_rfl) (by kernel_rfl) (fun _ _ _ h => h) (Or.inl ⟨by rfl, by intro w hSw; (try dsimp only at hSw); go_simp; try (with_reducible rfl)⟩) (by assumption) ?_
    try simp only [Act.put, List.setIfInBounds_toArray, List.set_cons_zero, List.set_cons_succ]
    refine wpAnyH_take (i := 2) (v := _) rfl (by kernel_rfl) (by kernel_rfl) (by kernel_rfl) (fun _ _ _ h => h) (Or.inl ⟨by rfl, by intro w hSw; (try dsimp only at hSw); go_simp; try (with_reducible rfl)⟩) (by assumption) ?_
    try simp only [Act.put, List.setIfInBounds_toArray, List.set_cons_zero, List.set_cons_succ]
    refine wpAnyH_take (i := 3) (v := _) rfl (by kernel_rfl) (by kernel_rfl) (by kernel_rfl) (fun _ _ _ h => h) (Or.inl ⟨by rfl, by intro w hSw; (try dsimp only at hSw); go_simp; try (with_reducible rfl)⟩) (by assumption) ?_
    try simp only [Act.put, List.setIfInBounds_toArray, List.set_cons_zero, List.set_cons_succ]
    refine wpAnyH_take (i := 5) (v := _) rfl (by kernel_rfl) (by kernel_rfl) (by kernel_rfl) (fun _ _ _ h => h) (Or.inl ⟨by rfl, by intro w hSw; (try dsimp only at hSw); go_simp; try (with_reducible rfl)⟩) (by assumption) ?_
    try simp only [Act.put, List.setIfInBounds_toArray, List.set_cons_zero, List.set_cons_succ]
    refine wpAnyH_take (i := 6) (v := _) rfl (by kernel_rfl) (by kernel_rfl) (by kernel_rfl) (fun _ _ _ h => h) (Or.inl ⟨by rfl, by intro w hSw; (try dsimp only at hSw); go_simp; try (with_reducible rfl)⟩) (by assumption) ?_
    try simp only [Act.put, List.setIfInBounds_toArray, List.set_cons_zero, List.set_cons_succ]
    refine wpAnyH_take (i := 7) (v := _) rfl (by kernel_rfl) (by kernel_rfl) (by kernel_rfl) (fun _ _ _ h => h) (Or.inl ⟨by rfl, by intro w hSw; (try dsimp only at hSw); go_simp; try (with_reducible rfl)⟩) (by assumption) ?_
    try simp only [Act.put, List.setIfInBounds_toArray, List.set_cons_zero, List.set_cons_succ]
    refine wpAnyH_take (i := 8) (v := _) rfl (by kernel_rfl) (by kernel_rfl) (by kernel_rfl) (fun _ _ _ h => h) (Or.inl ⟨by rfl, by intro w hSw; (try dsimp only at hSw); go_simp; try (with_reducible rfl)⟩) (by assumption) ?_
    try simp only [Act.put, List.setIfInBounds_toArray, List.set_cons_zero, List.set_cons_succ]
    refine wpAnyH_ready (rs := [4]) (by kernel_rfl) (by simp) ?_
    refine AllReadyH.cons rfl (fun K hK => ?_) AllReadyH.nil
    go_simp
    go_at_call 51
    with_reducible refine Calls.mono (M1.out _) ?_
    rintro e w2 ⟨rfl, hb⟩
    have F1 := Lib.hid (TD.out.step hb)
    clear hb 
    refine hK.out _ _ (XY.all (Has.xy F1.out (by simp))) (fun hHeld => ?_)
    clear hK K
    try simp only [Act.put, List.setIfInBounds_toArray, List.set_cons_zero, List.set_cons_succ]
    refine wpAnyH_ready (rs := [9]) (by kernel_rfl) (by simp) ?_
    refine AllReadyH.cons rfl (fun K hK => ?_) AllReadyH.nil
    go_simp
    go_at_call 51
    with_reducible refine Calls.mono (M2.out _) ?_
    rintro e w3 ⟨rfl, hb⟩
    have F2 := Lib.hid (F1.out.step hb)
    clear hb 
    refine hK.out _ _ (XY.all (Has.xy F2.out (by simp))) (fun hHeld => ?_)
    clear hK K
    try simp only [Act.put, List.setIfInBounds_toArray, List.set_cons_zero, List.set_cons_succ]
    refine wpAnyH_take (i := 10) (v := _) rfl (by kernel_rfl) (by kernel_rfl) (by kernel_rfl) (fun _ _ _ h => h) (Or.inl ⟨by rfl, by intro w hSw; (try dsimp only at hSw); go_simp; try (with_reducible rfl)⟩) (by assumption) ?_
    try simp only [Act.put, List.setIfInBounds_toArray, List.set_cons_zero, List.set_cons_succ]
    refine wpAnyH_ready (rs := [11]) (by kernel_rfl) (by simp) ?_
    refine AllReadyH.cons rfl (fun K hK => ?_) AllReadyH.nil
    obtain ⟨k0, k1, k2, k3, k4⟩ := Has.c4 (g := w.heap.size + 1 + 1) (x := .int .i64 0) (y := .int .i64 0) (z := .int .i64 0) (u := .int .i64 0) (t := 25) F2.out (by simp)
    obtain ⟨k5, k6, k7, k8⟩ := Has.f4 (g := w.heap.size + 1 + 1) (cs := #[.int .i64 0, .int .i64 0, .int .i64 0, .int .i64 0]) (t := 25) F2.out (by simp)
    go_simp
    have F3 := Lib.hid (Has.put4 (g := w.heap.size + 1 + 1) (x := .int .i64 0) (y := .int .i64 0) (z := .int .i64 0) (u := .int .i64 0) (t := 25) (M := [(w.heap.size, #[.int .i64 a, .int .i64 b, .int .i64 c, .int .i64 d], 25), (w.heap.size + 1, #[.int .i64 p, .int .i64 q, .int .i64 r, .int .i64 s], 25)]) F2.out (.int .i64 x) (.int .i64 y) (.int .i64 z) (.int .i64 u) (by simp) (by simp <;> omega))
    refine hK.out _ _ (XY.all (Has.xy F3.out (by simp))) (fun hHeld => ?_)
    clear hK K
    try simp only [Act.put, List.setIfInBounds_toArray, List.set_cons_zero, List.set_cons_succ]
    refine wpAnyH_done (by kernel_rfl) ?_ _
    go_wp2
    refine bodyPost_ret (results_cell_row rfl _ _ (w.heap.size + 1 + 1) 25 #[.int .i64 x, .int .i64 y, .int .i64 z, .int .i64 u] (0, 0) _ rfl (F3.out.row (by simp)) Try.underlying25 rfl info25) rfl ?_
    exact ⟨rfl, F3.out.1⟩
set_option maxHeartbeats 1000000 in
theorem pmax_raw (a b c d p q r s x y z u : Int) (v : Bool)
    (V : Hid (∀ w : World, Calls Try.prog 40 #[.agg #[.int .i64 a, .int .i64 b, .int .i64 c, .int .i64 d], .agg #[.int .i64 p, .int .i64 q, .int .i64 r, .int .i64 s]] w fun e w' => e = .returned (.bool v) ∧ Below w.heap.size w w'))
    (M1 : Hid (∀ w : World, Calls Try.prog 52 #[.agg #[.int .i64 a, .int .i64 b], .agg #[.int .i64 p, .int .i64 q]] w fun e w' => e = .returned (.agg #[.int .i64 x, .int .i64 y]) ∧ Below w.heap.size w w'))
    (M2 : Hid (∀ w : World, Calls Try.prog 52 #[.agg #[.int .i64 c, .int .i64 d], .agg #[.int .i64 r, .int .i64 s]] w fun e w' => e = .returned (.agg #[.int .i64 z, .int .i64 u]) ∧ Below w.heap.size w w'))
    (w : World) : Calls Try.prog 26 #[.agg #[.int .i64 a, .int .i64 b, .int .i64 c, .int .i64 d], .agg #[.int .i64 p, .int .i64 q, .int .i64 r, .int .i64 s]] w fun e w' => e = .returned (if v = true then .agg #[.int .i64 x, .int .i64 y, .int .i64 z, .int .i64 u] else .agg #[.int .i64 0, .int .i64 0, .int .i64 0, .int .i64 0]) ∧ Below w.heap.size w w' := by
  have T0 := Lib.hid (three0 w #[.int .i64 a, .int .i64 b, .int .i64 c, .int .i64 d] #[.int .i64 p, .int .i64 q, .int .i64 r, .int .i64 s] #[.int .i64 0, .int .i64 0, .int .i64 0, .int .i64 0] 25 25 25)
  cases v with
  | false =>
    rw [if_neg (by decide)]
    go_enter Try.func26, Try.ntmps26
    go_wp2_with fail
    with_reducible refine ((V.out) _).mono ?_
    rintro e w1 ⟨rfl, hb⟩
    have T1 := Lib.hid (T0.out.step hb)
    clear hb T0 V
    obtain ⟨k0, k1, k2, k3, k4⟩ := Has.c4 (g := w.heap.size + 1 + 1) (x := .int .i64 0) (y := .int .i64 0) (z := .int .i64 0) (u := .int .i64 0) (t := 25) T1.out (by simp)
    obtain ⟨k5, k6, k7, k8⟩ := Has.f4 (g := w.heap.size + 1 + 1) (cs := #[.int .i64 0, .int .i64 0, .int .i64 0, .int .i64 0]) (t := 25) T1.out (by simp)
    have T2 := Lib.hid (Has.put4 (g := w.heap.size + 1 + 1) (x := .int .i64 0) (y := .int .i64 0) (z := .int .i64 0) (u := .int .i64 0) (t := 25) (M := [(w.heap.size, #[.int .i64 a, .int .i64 b, .int .i64 c, .int .i64 d], 25)]) T1.out (.int .i64 0) (.int .i64 0) (.int .i64 0) (.int .i64 0) (by simp) (by simp <;> omega))
    go_wp2
    refine bodyPost_ret (results_cell_row rfl _ _ (w.heap.size + 1 + 1) 25 #[.int .i64 0, .int .i64 0, .int .i64 0, .int .i64 0] (0, 0) _ rfl (T2.out.row (by simp)) Try.underlying25 rfl info25) rfl ?_
    exact ⟨rfl, T2.out.1⟩
  | true =>
    rw [if_pos rfl]
    go_enter Try.func26, Try.ntmps26
    go_wp2_with fail
    with_reducible refine ((V.out) _).mono ?_
    rintro e w1 ⟨rfl, hb⟩
    have T1 := Lib.hid (T0.out.step hb)
    clear hb T0 V
    go_upto_region 3 with fail
    have TD := Lib.hid T1.out.drew
    refine wp_region_held_drew (S := (fun V => XY w a b c d p q r s V ∧ (V.cell? ⟨w.heap.size, 0, none⟩ = some (.int .i64 a) ∧ V.cell? ⟨w.heap.size, 1, none⟩ = some (.int .i64 b) ∧ V.cell? ⟨w.heap.size, 2, none⟩ = some (.int .i64 c) ∧ V.cell? ⟨w.heap.size, 3, none⟩ = some (.int .i64 d)) ∧ V.cell? ⟨w.heap.size + 1, 0, none⟩ = some (.int .i64 p) ∧ V.cell? ⟨w.heap.size + 1, 1, none⟩ = some (.int .i64 q) ∧ V.cell? ⟨w.heap.size + 1, 2, none⟩ = some (.int .i64 r) ∧ V.cell? ⟨w.heap.size + 1, 3, none⟩ = some (.int .i64 s))) (by kernel_rfl) (XY.all (Has.xy TD.out (by simp))) (fun hHeld => ?_)
    refine wpAnyH_take (i := 0) (v := _) rfl (by kernel_rfl) (by kernel_rfl) (by kernel_rfl) (fun _ _ _ h => h) (Or.inl ⟨by rfl, by intro w hSw; (try dsimp only at hSw); go_simp; try (with_reducible rfl)⟩) (by assumption) ?_
    try simp only [Act.put, List.setIfInBounds_toArray, List.set_cons_zero, List.set_cons_succ]
    refine wpAnyH_take (i := 1) (v := _) rfl (by kernel_rfl) (by kernel_rfl) (by kernel_rfl) (fun _ _ _ h => h) (Or.inl ⟨by rfl, by intro w hSw; (try dsimp only at hSw); go_simp; try (with_reducible rfl)⟩) (by assumption) ?_
    try simp only [Act.put, List.setIfInBounds_toArray, List.set_cons_zero, List.set_cons_succ]
    refine wpAnyH_take (i := 2) (v := _) rfl (by kernel_rfl) (by kernel_rfl) (by kernel_rfl) (fun _ _ _ h => h) (Or.inl ⟨by rfl, by intro w hSw; (try dsimp only at hSw); go_simp; try (with_reducible rfl)⟩) (by assumption) ?_
    try simp only [Act.put, List.setIfInBounds_toArray, List.set_cons_zero, List.set_cons_succ]
    refine wpAnyH_take (i := 3) (v := _) rfl (by kernel_rfl) (by kernel_rfl) (by kernel_rfl) (fun _ _ _ h => h) (Or.inl ⟨by rfl, by intro w hSw; (try dsimp only at hSw); go_simp; try (with_reducible rfl)⟩) (by assumption) ?_
    try simp only [Act.put, List.setIfInBounds_toArray, List.set_cons_zero, List.set_cons_succ]
    refine wpAnyH_take (i := 5) (v := _) rfl (by kernel_rfl) (by kernel_rfl) (by kernel_rfl) (fun _ _ _ h => h) (Or.inl ⟨by rfl, by intro w hSw; (try dsimp only at hSw); go_simp; try (with_reducible rfl)⟩) (by assumption) ?_
    try simp only [Act.put, List.setIfInBounds_toArray, List.set_cons_zero, List.set_cons_succ]
    refine wpAnyH_take (i := 6) (v := _) rfl (by kernel_rfl) (by kernel_rfl) (by kernel_rfl) (fun _ _ _ h => h) (Or.inl ⟨by rfl, by intro w hSw; (try dsimp only at hSw); go_simp; try (with_reducible rfl)⟩) (by assumption) ?_
    try simp only [Act.put, List.setIfInBounds_toArray, List.set_cons_zero, List.set_cons_succ]
    refine wpAnyH_take (i := 7) (v := _) rfl (by kernel_rfl) (by kernel_rfl) (by kernel_rfl) (fun _ _ _ h => h) (Or.inl ⟨by rfl, by intro w hSw; (try dsimp only at hSw); go_simp; try (with_reducible rfl)⟩) (by assumption) ?_
    try simp only [Act.put, List.setIfInBounds_toArray, List.set_cons_zero, List.set_cons_succ]
    refine wpAnyH_take (i := 8) (v := _) rfl (by kernel_rfl) (by kernel_rfl) (by kernel_rfl) (fun _ _ _ h => h) (Or.inl ⟨by rfl, by intro w hSw; (try dsimp only at hSw); go_simp; try (with_reducible rfl)⟩) (by assumption) ?_
    try simp only [Act.put, List.setIfInBounds_toArray, List.set_cons_zero, List.set_cons_succ]
    refine wpAnyH_ready (rs := [4]) (by kernel_rfl) (by simp) ?_
    refine AllReadyH.cons rfl (fun K hK => ?_) AllReadyH.nil
    go_simp
    go_at_call 52
    with_reducible refine Calls.mono (M1.out _) ?_
    rintro e w2 ⟨rfl, hb⟩
    have F1 := Lib.hid (TD.out.step hb)
    clear hb 
    refine hK.out _ _ (XY.all (Has.xy F1.out (by simp))) (fun hHeld => ?_)
    clear hK K
    try simp only [Act.put, List.setIfInBounds_toArray, List.set_cons_zero, List.set_cons_succ]
    refine wpAnyH_ready (rs := [9]) (by kernel_rfl) (by simp) ?_
    refine AllReadyH.cons rfl (fun K hK => ?_) AllReadyH.nil
    go_simp
    go_at_call 52
    with_reducible refine Calls.mono (M2.out _) ?_
    rintro e w3 ⟨rfl, hb⟩
    have F2 := Lib.hid (F1.out.step hb)
    clear hb 
    refine hK.out _ _ (XY.all (Has.xy F2.out (by simp))) (fun hHeld => ?_)
    clear hK K
    try simp only [Act.put, List.setIfInBounds_toArray, List.set_cons_zero, List.set_cons_succ]
    refine wpAnyH_take (i := 10) (v := _) rfl (by kernel_rfl) (by kernel_rfl) (by kernel_rfl) (fun _ _ _ h => h) (Or.inl ⟨by rfl, by intro w hSw; (try dsimp only at hSw); go_simp; try (with_reducible rfl)⟩) (by assumption) ?_
    try simp only [Act.put, List.setIfInBounds_toArray, List.set_cons_zero, List.set_cons_succ]
    refine wpAnyH_ready (rs := [11]) (by kernel_rfl) (by simp) ?_
    refine AllReadyH.cons rfl (fun K hK => ?_) AllReadyH.nil
    obtain ⟨k0, k1, k2, k3, k4⟩ := Has.c4 (g := w.heap.size + 1 + 1) (x := .int .i64 0) (y := .int .i64 0) (z := .int .i64 0) (u := .int .i64 0) (t := 25) F2.out (by simp)
    obtain ⟨k5, k6, k7, k8⟩ := Has.f4 (g := w.heap.size + 1 + 1) (cs := #[.int .i64 0, .int .i64 0, .int .i64 0, .int .i64 0]) (t := 25) F2.out (by simp)
    go_simp
    have F3 := Lib.hid (Has.put4 (g := w.heap.size + 1 + 1) (x := .int .i64 0) (y := .int .i64 0) (z := .int .i64 0) (u := .int .i64 0) (t := 25) (M := [(w.heap.size, #[.int .i64 a, .int .i64 b, .int .i64 c, .int .i64 d], 25), (w.heap.size + 1, #[.int .i64 p, .int .i64 q, .int .i64 r, .int .i64 s], 25)]) F2.out (.int .i64 x) (.int .i64 y) (.int .i64 z) (.int .i64 u) (by simp) (by simp <;> omega))
    refine hK.out _ _ (XY.all (Has.xy F3.out (by simp))) (fun hHeld => ?_)
    clear hK K
    try simp only [Act.put, List.setIfInBounds_toArray, List.set_cons_zero, List.set_cons_succ]
    refine wpAnyH_done (by kernel_rfl) ?_ _
    go_wp2
    refine bodyPost_ret (results_cell_row rfl _ _ (w.heap.size + 1 + 1) 25 #[.int .i64 x, .int .i64 y, .int .i64 z, .int .i64 u] (0, 0) _ rfl (F3.out.row (by simp)) Try.underlying25 rfl info25) rfl ?_
    exact ⟨rfl, F3.out.1⟩
set_option maxHeartbeats 1000000 in
theorem padd_raw (a b c d p q r s x y z u e1 e2 : Int) (v : Bool)
    (V : Hid (∀ w : World, Calls Try.prog 40 #[.agg #[.int .i64 a, .int .i64 b, .int .i64 c, .int .i64 d], .agg #[.int .i64 p, .int .i64 q, .int .i64 r, .int .i64 s]] w fun e w' => e = .returned (.bool v) ∧ Below w.heap.size w w'))
    (A1 : Hid (∀ w : World, Calls Try.prog 60 #[.agg #[.int .i64 a, .int .i64 b], .agg #[.int .i64 p, .int .i64 q]] w fun e w' => e = .returned (.tuple #[.agg #[.int .i64 x, .int .i64 y], .int .i64 e1]) ∧ Below w.heap.size w w'))
    (A2 : Hid (∀ w : World, Calls Try.prog 60 #[.agg #[.int .i64 c, .int .i64 d], .agg #[.int .i64 r, .int .i64 s]] w fun e w' => e = .returned (.tuple #[.agg #[.int .i64 z, .int .i64 u], .int .i64 e2]) ∧ Below w.heap.size w w'))
    (w : World) : Calls Try.prog 45 #[.agg #[.int .i64 a, .int .i64 b, .int .i64 c, .int .i64 d], .agg #[.int .i64 p, .int .i64 q, .int .i64 r, .int .i64 s]] w fun e w' => e = .returned (if v = true then (if e1 = 0 then (if e2 = 0 then .tuple #[.agg #[.int .i64 x, .int .i64 y, .int .i64 z, .int .i64 u], .int .i64 0] else .tuple #[.agg #[.int .i64 0, .int .i64 0, .int .i64 0, .int .i64 0], .int .i64 e2]) else .tuple #[.agg #[.int .i64 0, .int .i64 0, .int .i64 0, .int .i64 0], .int .i64 e1]) else .tuple #[.agg #[.int .i64 0, .int .i64 0, .int .i64 0, .int .i64 0], .int .i64 1]) ∧ Below w.heap.size w w' := by
  have T0 := Lib.hid (three0 w #[.int .i64 a, .int .i64 b, .int .i64 c, .int .i64 d] #[.int .i64 p, .int .i64 q, .int .i64 r, .int .i64 s] #[.int .i64 0, .int .i64 0, .int .i64 0, .int .i64 0] 25 25 25)
  cases v with
  | false =>
    rw [if_neg (by decide)]
    go_enter Try.func45, Try.ntmps45
    go_wp2_with fail
    with_reducible refine ((V.out) _).mono ?_
    rintro e w1 ⟨rfl, hb⟩
    have T1 := Lib.hid (T0.out.step hb)
    clear hb T0 V
    obtain ⟨k0, k1, k2, k3, k4⟩ := Has.c4 (g := w.heap.size + 1 + 1) (x := .int .i64 0) (y := .int .i64 0) (z := .int .i64 0) (u := .int .i64 0) (t := 25) T1.out (by simp)
    obtain ⟨k5, k6, k7, k8⟩ := Has.f4 (g := w.heap.size + 1 + 1) (cs := #[.int .i64 0, .int .i64 0, .int .i64 0, .int .i64 0]) (t := 25) T1.out (by simp)
    have T2 := Lib.hid (Has.put4 (g := w.heap.size + 1 + 1) (x := .int .i64 0) (y := .int .i64 0) (z := .int .i64 0) (u := .int .i64 0) (t := 25) (M := [(w.heap.size, #[.int .i64 a, .int .i64 b, .int .i64 c, .int .i64 d], 25)]) T1.out (.int .i64 0) (.int .i64 0) (.int .i64 0) (.int .i64 0) (by simp) (by simp <;> omega))
    go_wp2
    refine bodyPost_ret (res_cell_tmp rfl _ _ (w.heap.size + 1 + 1) 25 #[.int .i64 0, .int .i64 0, .int .i64 0, .int .i64 0] (0, 0) _ rfl (T2.out.row (by simp)) Try.underlying25 rfl info25) rfl ?_
    exact ⟨rfl, T2.out.1⟩
  | true =>
    rw [if_pos rfl]
    by_cases h1 : e1 = 0
    · subst h1
      rw [if_pos rfl]
      by_cases h2 : e2 = 0
      · subst h2
        rw [if_pos rfl]
        go_enter Try.func45, Try.ntmps45
        go_wp2_with fail
        with_reducible refine ((V.out) _).mono ?_
        rintro e w1 ⟨rfl, hb⟩
        have T1 := Lib.hid (T0.out.step hb)
        clear hb T0 V
        obtain ⟨x0, x1, x2, x3, x4⟩ := Has.c4 (g := w.heap.size) (x := .int .i64 a) (y := .int .i64 b) (z := .int .i64 c) (u := .int .i64 d) (t := 25) T1.out (by simp)
        obtain ⟨y0, y1, y2, y3, y4⟩ := Has.c4 (g := w.heap.size + 1) (x := .int .i64 p) (y := .int .i64 q) (z := .int .i64 r) (u := .int .i64 s) (t := 25) T1.out (by simp)
        go_wp2_with fail
        with_reducible refine ((A1.out) _).mono ?_
        rintro e w2 ⟨rfl, hb⟩
        have T2 := Lib.hid ((T1.out.step hb).alloc #[.int .i64 x, .int .i64 y] 23)
        have g1lt : w.heap.size + 1 + 1 < w2.heap.size := Has.lt (x := (w.heap.size + 1 + 1, #[.int .i64 0, .int .i64 0, .int .i64 0, .int .i64 0], 25)) (T1.out.step hb) (by simp)
        clear hb T1 A1 x0 x1 x2 x3 x4 y0 y1 y2 y3 y4
        go_upto_region 4 with fail
        generalize w2.alloc (.cells #[.int .i64 x, .int .i64 y] 23) = yg1 at *
        generalize w2.heap.size = g1 at *
        obtain ⟨x0, x1, x2, x3, x4⟩ := Has.c4 (g := w.heap.size) (x := .int .i64 a) (y := .int .i64 b) (z := .int .i64 c) (u := .int .i64 d) (t := 25) T2.out (by simp)
        obtain ⟨y0, y1, y2, y3, y4⟩ := Has.c4 (g := w.heap.size + 1) (x := .int .i64 p) (y := .int .i64 q) (z := .int .i64 r) (u := .int .i64 s) (t := 25) T2.out (by simp)
        go_wp2_with fail
        with_reducible refine ((A2.out) _).mono ?_
        rintro e w3 ⟨rfl, hb⟩
        have T3 := Lib.hid ((T2.out.step hb).alloc #[.int .i64 z, .int .i64 u] 23)
        have g2lt : w.heap.size + 1 + 1 < w3.heap.size := Has.lt (x := (w.heap.size + 1 + 1, #[.int .i64 0, .int .i64 0, .int .i64 0, .int .i64 0], 25)) (T2.out.step hb) (by simp)
        clear hb T2 A2 x0 x1 x2 x3 x4 y0 y1 y2 y3 y4
        go_upto_region 7 with fail
        generalize w3.alloc (.cells #[.int .i64 z, .int .i64 u] 23) = yg2 at *
        generalize w3.heap.size = g2 at *
        obtain ⟨k0, k1, k2, k3, k4⟩ := Has.c4 (g := w.heap.size + 1 + 1) (x := .int .i64 0) (y := .int .i64 0) (z := .int .i64 0) (u := .int .i64 0) (t := 25) T3.out (by simp)
        obtain ⟨k5, k6, k7, k8⟩ := Has.f4 (g := w.heap.size + 1 + 1) (cs := #[.int .i64 0, .int .i64 0, .int .i64 0, .int .i64 0]) (t := 25) T3.out (by simp)
        obtain ⟨m0, m1, m4⟩ := Has.c2 (g := g1) (x := .int .i64 x) (y := .int .i64 y) (t := 23) T3.out (by simp)
        obtain ⟨n0, n1, n4⟩ := Has.c2 (g := g2) (x := .int .i64 z) (y := .int .i64 u) (t := 23) T3.out (by simp)
        have T4 := Lib.hid (Has.put4 (g := w.heap.size + 1 + 1) (x := .int .i64 0) (y := .int .i64 0) (z := .int .i64 0) (u := .int .i64 0) (t := 25) (M := [(w.heap.size, #[.int .i64 a, .int .i64 b, .int .i64 c, .int .i64 d], 25)]) T3.out (.int .i64 x) (.int .i64 y) (.int .i64 z) (.int .i64 u) (by simp) (by simp <;> omega))
        go_wp2
        refine bodyPost_ret (res_cell_tmp rfl _ _ (w.heap.size + 1 + 1) 25 #[.int .i64 x, .int .i64 y, .int .i64 z, .int .i64 u] (0, 0) _ rfl (T4.out.row (by simp)) Try.underlying25 rfl info25) rfl ?_
        exact ⟨rfl, T4.out.1⟩
      · rw [if_neg h2]
        go_enter Try.func45, Try.ntmps45
        go_wp2_with fail
        with_reducible refine ((V.out) _).mono ?_
        rintro e w1 ⟨rfl, hb⟩
        have T1 := Lib.hid (T0.out.step hb)
        clear hb T0 V
        obtain ⟨x0, x1, x2, x3, x4⟩ := Has.c4 (g := w.heap.size) (x := .int .i64 a) (y := .int .i64 b) (z := .int .i64 c) (u := .int .i64 d) (t := 25) T1.out (by simp)
        obtain ⟨y0, y1, y2, y3, y4⟩ := Has.c4 (g := w.heap.size + 1) (x := .int .i64 p) (y := .int .i64 q) (z := .int .i64 r) (u := .int .i64 s) (t := 25) T1.out (by simp)
        go_wp2_with fail
        with_reducible refine ((A1.out) _).mono ?_
        rintro e w2 ⟨rfl, hb⟩
        have T2 := Lib.hid ((T1.out.step hb).alloc #[.int .i64 x, .int .i64 y] 23)
        have g1lt : w.heap.size + 1 + 1 < w2.heap.size := Has.lt (x := (w.heap.size + 1 + 1, #[.int .i64 0, .int .i64 0, .int .i64 0, .int .i64 0], 25)) (T1.out.step hb) (by simp)
        clear hb T1 A1 x0 x1 x2 x3 x4 y0 y1 y2 y3 y4
        go_upto_region 4 with fail
        generalize w2.alloc (.cells #[.int .i64 x, .int .i64 y] 23) = yg1 at *
        generalize w2.heap.size = g1 at *
        obtain ⟨x0, x1, x2, x3, x4⟩ := Has.c4 (g := w.heap.size) (x := .int .i64 a) (y := .int .i64 b) (z := .int .i64 c) (u := .int .i64 d) (t := 25) T2.out (by simp)
        obtain ⟨y0, y1, y2, y3, y4⟩ := Has.c4 (g := w.heap.size + 1) (x := .int .i64 p) (y := .int .i64 q) (z := .int .i64 r) (u := .int .i64 s) (t := 25) T2.out (by simp)
        go_wp2_with fail
        with_reducible refine ((A2.out) _).mono ?_
        rintro e w3 ⟨rfl, hb⟩
        have T3 := Lib.hid ((T2.out.step hb).alloc #[.int .i64 z, .int .i64 u] 23)
        have g2lt : w.heap.size + 1 + 1 < w3.heap.size := Has.lt (x := (w.heap.size + 1 + 1, #[.int .i64 0, .int .i64 0, .int .i64 0, .int .i64 0], 25)) (T2.out.step hb) (by simp)
        clear hb T2 A2 x0 x1 x2 x3 x4 y0 y1 y2 y3 y4
        go_upto_region 7 with fail
        generalize w3.alloc (.cells #[.int .i64 z, .int .i64 u] 23) = yg2 at *
        generalize w3.heap.size = g2 at *
        obtain ⟨k0, k1, k2, k3, k4⟩ := Has.c4 (g := w.heap.size + 1 + 1) (x := .int .i64 0) (y := .int .i64 0) (z := .int .i64 0) (u := .int .i64 0) (t := 25) T3.out (by simp)
        obtain ⟨k5, k6, k7, k8⟩ := Has.f4 (g := w.heap.size + 1 + 1) (cs := #[.int .i64 0, .int .i64 0, .int .i64 0, .int .i64 0]) (t := 25) T3.out (by simp)
        have T4 := Lib.hid (Has.put4 (g := w.heap.size + 1 + 1) (x := .int .i64 0) (y := .int .i64 0) (z := .int .i64 0) (u := .int .i64 0) (t := 25) (M := [(w.heap.size, #[.int .i64 a, .int .i64 b, .int .i64 c, .int .i64 d], 25)]) T3.out (.int .i64 0) (.int .i64 0) (.int .i64 0) (.int .i64 0) (by simp) (by simp <;> omega))
        go_wp2
        refine bodyPost_ret (res_cell_tmp rfl _ _ (w.heap.size + 1 + 1) 25 #[.int .i64 0, .int .i64 0, .int .i64 0, .int .i64 0] (0, 0) _ rfl (T4.out.row (by simp)) Try.underlying25 rfl info25) rfl ?_
        exact ⟨rfl, T4.out.1⟩
    · rw [if_neg h1]
      go_enter Try.func45, Try.ntmps45
      go_wp2_with fail
      with_reducible refine ((V.out) _).mono ?_
      rintro e w1 ⟨rfl, hb⟩
      have T1 := Lib.hid (T0.out.step hb)
      clear hb T0 V
      obtain ⟨x0, x1, x2, x3, x4⟩ := Has.c4 (g := w.heap.size) (x := .int .i64 a) (y := .int .i64 b) (z := .int .i64 c) (u := .int .i64 d) (t := 25) T1.out (by simp)
      obtain ⟨y0, y1, y2, y3, y4⟩ := Has.c4 (g := w.heap.size + 1) (x := .int .i64 p) (y := .int .i64 q) (z := .int .i64 r) (u := .int .i64 s) (t := 25) T1.out (by simp)
      go_wp2_with fail
      with_reducible refine ((A1.out) _).mono ?_
      rintro e w2 ⟨rfl, hb⟩
      have T2 := Lib.hid ((T1.out.step hb).alloc #[.int .i64 x, .int .i64 y] 23)
      have g1lt : w.heap.size + 1 + 1 < w2.heap.size := Has.lt (x := (w.heap.size + 1 + 1, #[.int .i64 0, .int .i64 0, .int .i64 0, .int .i64 0], 25)) (T1.out.step hb) (by simp)
      clear hb T1 A1 x0 x1 x2 x3 x4 y0 y1 y2 y3 y4
      go_upto_region 4 with fail
      generalize w2.alloc (.cells #[.int .i64 x, .int .i64 y] 23) = yg1 at *
      generalize w2.heap.size = g1 at *
      obtain ⟨k0, k1, k2, k3, k4⟩ := Has.c4 (g := w.heap.size + 1 + 1) (x := .int .i64 0) (y := .int .i64 0) (z := .int .i64 0) (u := .int .i64 0) (t := 25) T2.out (by simp)
      obtain ⟨k5, k6, k7, k8⟩ := Has.f4 (g := w.heap.size + 1 + 1) (cs := #[.int .i64 0, .int .i64 0, .int .i64 0, .int .i64 0]) (t := 25) T2.out (by simp)
      have T3 := Lib.hid (Has.put4 (g := w.heap.size + 1 + 1) (x := .int .i64 0) (y := .int .i64 0) (z := .int .i64 0) (u := .int .i64 0) (t := 25) (M := [(w.heap.size, #[.int .i64 a, .int .i64 b, .int .i64 c, .int .i64 d], 25)]) T2.out (.int .i64 0) (.int .i64 0) (.int .i64 0) (.int .i64 0) (by simp) (by simp <;> omega))
      go_wp2
      refine bodyPost_ret (res_cell_tmp rfl _ _ (w.heap.size + 1 + 1) 25 #[.int .i64 0, .int .i64 0, .int .i64 0, .int .i64 0] (0, 0) _ rfl (T3.out.row (by simp)) Try.underlying25 rfl info25) rfl ?_
      exact ⟨rfl, T3.out.1⟩
end Go.Proofs.Ytbiegbnncnjnmaa.Iv
