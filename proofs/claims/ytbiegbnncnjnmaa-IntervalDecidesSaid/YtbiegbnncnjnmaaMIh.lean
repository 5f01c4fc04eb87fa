/- The contracts of the reference of layer 4 (interval): Mul, Div. -/
import Derived.Test.YtbiegbnncnjnmaaMIf
import Derived.Test.YtbiegbnncnjnmaaMIg
set_option linter.unusedVariables false
set_option linter.unusedSimpArgs false
namespace Go.Proofs.Ytbiegbnncnjnmaa.Iv
open Go.RowKit
open Go.Proofs.Ytbiegbnncnjnmaa.Pro

set_option maxHeartbeats 1000000 in
theorem imul_raw (a b c d p q r s x y z u ev : Int) (v : Bool)
    (V : Hid (∀ w : World, Calls Try.prog 41 #[.agg #[.int .i64 a, .int .i64 b, .int .i64 c, .int .i64 d], .agg #[.int .i64 p, .int .i64 q, .int .i64 r, .int .i64 s]] w fun e w' => e = .returned (.bool v) ∧ Below w.heap.size w w'))
    (CO : Hid (∀ w : World, Calls Try.prog 73 #[.agg #[.int .i64 a, .int .i64 b, .int .i64 c, .int .i64 d], .agg #[.int .i64 p, .int .i64 q, .int .i64 r, .int .i64 s], .bool false] w fun e w' => e = .returned (.tuple #[.agg #[.int .i64 x, .int .i64 y, .int .i64 z, .int .i64 u], .int .i64 ev]) ∧ Below w.heap.size w w'))
    (w : World) : Calls Try.prog 49 #[.agg #[.int .i64 a, .int .i64 b, .int .i64 c, .int .i64 d], .agg #[.int .i64 p, .int .i64 q, .int .i64 r, .int .i64 s]] w fun e w' => e = .returned (if v = true then .tuple #[.agg #[.int .i64 x, .int .i64 y, .int .i64 z, .int .i64 u], .int .i64 ev] else .tuple #[.agg #[.int .i64 0, .int .i64 0, .int .i64 0, .int .i64 0], .int .i64 1]) ∧ Below w.heap.size w w' := by
  have T0 := Lib.hid (three0 w #[.int .i64 a, .int .i64 b, .int .i64 c, .int .i64 d] #[.int .i64 p, .int .i64 q, .int .i64 r, .int .i64 s] #[.int .i64 0, .int .i64 0, .int .i64 0, .int .i64 0] 25 25 25)
  cases v with
  | false =>
    rw [if_neg (by decide)]
    go_enter Try.func49, Try.ntmps49
    go_wp2_with fail
    with_reducible refine ((V.out) _).mono ?_
    rintro e w1 ⟨rfl, hb⟩
    have T1 := Lib.hid (T0.out.step hb)
    clear hb T0 V
    obtain ⟨k0, k1, k2, k3, k4⟩ := Has.c4 (g := w.heap.size + 1 + 1) (x := .int .i64 0) (y := .int .i64 0) (z := .int .i64 0) (u := .int .i64 0) (t := 25) T1.out (by simp)
    obtain ⟨k5, k6, k7, k8⟩ := Has.f4 (g := w.heap.size + 1 + 1) (cs := #[.int .i64 0, .int .i64 0, .int .i64 0, .int .i64 0]) (t := 25) T1.out (by simp)
    have T2 := Lib.hid (Has.put4 (g := w.heap.size + 1 + 1) (x := .int .i64 0) (y := .int .i64 0) (z := .int .i64 0) (u := .int .i64 0) (t := 25) (M := [(w.heap.size, #[.int .i64 a, .int .i64 b, .int .i64 c, .int .i64 d], 25)]) T1.out (.int .i64 0) (.int .i64 0) (.int .i64 0) (.int .i64 0) (by simp) (by simp <;> omega))
    go_wp2
    refine bodyPost_ret (res_cell_tmp rfl _ _ (w.heap.size + 1 + 1) 25 #[.int .i64 0, .int .i64 0, .int .i64 0, .int .i64 0] (0, 0) _ rfl (T2.out.row (by simp)) Try.underlying25 rfl info25) rfl ?_
    exact ⟨rfl, T2.out.1⟩
  | true =>
    rw [if_pos rfl]
    go_enter Try.func49, Try.ntmps49
    go_wp2_with fail
    with_reducible refine ((V.out) _).mono ?_
    rintro e w1 ⟨rfl, hb⟩
    have T1 := Lib.hid (T0.out.step hb)
    clear hb T0 V
    obtain ⟨h0, h1, h2, h3, h4⟩ := Has.c4 (g := w.heap.size) (x := .int .i64 a) (y := .int .i64 b) (z := .int .i64 c) (u := .int .i64 d) (t := 25) T1.out (by simp)
    obtain ⟨j0, j1, j2, j3, j4⟩ := Has.c4 (g := w.heap.size + 1) (x := .int .i64 p) (y := .int .i64 q) (z := .int .i64 r) (u := .int .i64 s) (t := 25) T1.out (by simp)
    go_wp2_with fail
    with_reducible refine ((CO.out) _).mono ?_
    rintro e w2 ⟨rfl, hb⟩
    have T2 := Lib.hid (T1.out.step hb)
    clear hb T1 CO h0 h1 h2 h3 h4 j0 j1 j2 j3 j4
    obtain ⟨k0, k1, k2, k3, k4⟩ := Has.c4 (g := w.heap.size + 1 + 1) (x := .int .i64 0) (y := .int .i64 0) (z := .int .i64 0) (u := .int .i64 0) (t := 25) T2.out (by simp)
    obtain ⟨k5, k6, k7, k8⟩ := Has.f4 (g := w.heap.size + 1 + 1) (cs := #[.int .i64 0, .int .i64 0, .int .i64 0, .int .i64 0]) (t := 25) T2.out (by simp)
    have T3 := Lib.hid (Has.put4 (g := w.heap.size + 1 + 1) (x := .int .i64 0) (y := .int .i64 0) (z := .int .i64 0) (u := .int .i64 0) (t := 25) (M := [(w.heap.size, #[.int .i64 a, .int .i64 b, .int .i64 c, .int .i64 d], 25)]) T2.out (.int .i64 x) (.int .i64 y) (.int .i64 z) (.int .i64 u) (by simp) (by simp <;> omega))
    go_wp2
    refine bodyPost_ret (res_cell_tmp rfl _ _ (w.heap.size + 1 + 1) 25 #[.int .i64 x, .int .i64 y, .int .i64 z, .int .i64 u] (0, 0) _ rfl (T3.out.row (by simp)) Try.underlying25 rfl info25) rfl ?_
    exact ⟨rfl, T3.out.1⟩
set_option maxHeartbeats 1000000 in
theorem idiv_raw (a b c d p q r s x y z u ev : Int) (v : Bool)
    (V : Hid (∀ w : World, Calls Try.prog 41 #[.agg #[.int .i64 a, .int .i64 b, .int .i64 c, .int .i64 d], .agg #[.int .i64 p, .int .i64 q, .int .i64 r, .int .i64 s]] w fun e w' => e = .returned (.bool v) ∧ Below w.heap.size w w'))
    (CO : Hid (¬ (p ≤ 0 ∧ 0 ≤ r) → ∀ w : World, Calls Try.prog 73 #[.agg #[.int .i64 a, .int .i64 b, .int .i64 c, .int .i64 d], .agg #[.int .i64 p, .int .i64 q, .int .i64 r, .int .i64 s], .bool true] w fun e w' => e = .returned (.tuple #[.agg #[.int .i64 x, .int .i64 y, .int .i64 z, .int .i64 u], .int .i64 ev]) ∧ Below w.heap.size w w'))
    (w : World) : Calls Try.prog 50 #[.agg #[.int .i64 a, .int .i64 b, .int .i64 c, .int .i64 d], .agg #[.int .i64 p, .int .i64 q, .int .i64 r, .int .i64 s]] w fun e w' => e = .returned (if v = true then (if p = 0 ∧ r = 0 then .tuple #[.agg #[.int .i64 0, .int .i64 0, .int .i64 0, .int .i64 0], .int .i64 26] else if p ≤ 0 ∧ 0 ≤ r then .tuple #[.agg #[.int .i64 0, .int .i64 0, .int .i64 0, .int .i64 0], .int .i64 23] else .tuple #[.agg #[.int .i64 x, .int .i64 y, .int .i64 z, .int .i64 u], .int .i64 ev]) else .tuple #[.agg #[.int .i64 0, .int .i64 0, .int .i64 0, .int .i64 0], .int .i64 1]) ∧ Below w.heap.size w w' := by
  have T0 := Lib.hid (three0 w #[.int .i64 a, .int .i64 b, .int .i64 c, .int .i64 d] #[.int .i64 p, .int .i64 q, .int .i64 r, .int .i64 s] #[.int .i64 0, .int .i64 0, .int .i64 0, .int .i64 0] 25 25 25)
  cases v with
  | false =>
    rw [if_neg (by decide)]
    go_enter Try.func50, Try.ntmps50
    go_wp2_with fail
    with_reducible refine ((V.out) _).mono ?_
    rintro e w1 ⟨rfl, hb⟩
    have T1 := Lib.hid (T0.out.step hb)
    clear hb T0 V
    obtain ⟨k0, k1, k2, k3, k4⟩ := Has.c4 (g := w.heap.size + 1 + 1) (x := .int .i64 0) (y := .int .i64 0) (z := .int .i64 0) (u := .int .i64 0) (t := 25) T1.out (by simp)
    obtain ⟨k5, k6, k7, k8⟩ := Has.f4 (g := w.heap.size + 1 + 1) (cs := #[.int .i64 0, .int .i64 0, .int .i64 0, .int .i64 0]) (t := 25) T1.out (by simp)
    have T2 := Lib.hid (Has.put4 (g := w.heap.size + 1 + 1) (x := .int .i64 0) (y := .int .i64 0) (z := .int .i64 0) (u := .int .i64 0) (t := 25) (M := [(w.heap.size, #[.int .i64 a, .int .i64 b, .int .i64 c, .int .i64 d], 25)]) T1.out (.int .i64 0) (.int .i64 0) (.int .i64 0) (.int .i64 0) (by simp) (by simp <;> omega))
    go_wp2
    refine bodyPost_ret (res_cell_tmp rfl _ _ (w.heap.size + 1 + 1) 25 #[.int .i64 0, .int .i64 0, .int .i64 0, .int .i64 0] (0, 0) _ rfl (T2.out.row (by simp)) Try.underlying25 rfl info25) rfl ?_
    exact ⟨rfl, T2.out.1⟩
  | true =>
    rw [if_pos rfl]
    by_cases h1 : p = 0
    · subst h1
      by_cases h2 : r = 0
      · subst h2
        rw [if_pos ⟨rfl, rfl⟩]
        go_enter Try.func50, Try.ntmps50
        go_wp2_with fail
        with_reducible refine ((V.out) _).mono ?_
        rintro e w1 ⟨rfl, hb⟩
        have T1 := Lib.hid (T0.out.step hb)
        clear hb T0 V
        obtain ⟨h0, h1, h2, h3, h4⟩ := Has.c4 (g := w.heap.size) (x := .int .i64 a) (y := .int .i64 b) (z := .int .i64 c) (u := .int .i64 d) (t := 25) T1.out (by simp)
        obtain ⟨j0, j1, j2, j3, j4⟩ := Has.c4 (g := w.heap.size + 1) (x := .int .i64 0) (y := .int .i64 q) (z := .int .i64 0) (u := .int .i64 s) (t := 25) T1.out (by simp)
        obtain ⟨k0, k1, k2, k3, k4⟩ := Has.c4 (g := w.heap.size + 1 + 1) (x := .int .i64 0) (y := .int .i64 0) (z := .int .i64 0) (u := .int .i64 0) (t := 25) T1.out (by simp)
        obtain ⟨k5, k6, k7, k8⟩ := Has.f4 (g := w.heap.size + 1 + 1) (cs := #[.int .i64 0, .int .i64 0, .int .i64 0, .int .i64 0]) (t := 25) T1.out (by simp)
        have T3 := Lib.hid (Has.put4 (g := w.heap.size + 1 + 1) (x := .int .i64 0) (y := .int .i64 0) (z := .int .i64 0) (u := .int .i64 0) (t := 25) (M := [(w.heap.size, #[.int .i64 a, .int .i64 b, .int .i64 c, .int .i64 d], 25)]) T1.out (.int .i64 0) (.int .i64 0) (.int .i64 0) (.int .i64 0) (by simp) (by simp <;> omega))
        go_wp2
        refine bodyPost_ret (res_cell_tmp rfl _ _ (w.heap.size + 1 + 1) 25 #[.int .i64 0, .int .i64 0, .int .i64 0, .int .i64 0] (0, 0) _ rfl (T3.out.row (by simp)) Try.underlying25 rfl info25) rfl ?_
        exact ⟨rfl, T3.out.1⟩
      · rw [if_neg (fun x => h2 x.2)]
        by_cases h3 : 0 ≤ r
        · rw [if_pos ⟨by omega, h3⟩]
          have h4 : (0 : Int) ≤ 0 := by omega
          go_enter Try.func50, Try.ntmps50
          go_wp2_with fail
          with_reducible refine ((V.out) _).mono ?_
          rintro e w1 ⟨rfl, hb⟩
          have T1 := Lib.hid (T0.out.step hb)
          clear hb T0 V
          obtain ⟨h0, h1, h2, h3, h4⟩ := Has.c4 (g := w.heap.size) (x := .int .i64 a) (y := .int .i64 b) (z := .int .i64 c) (u := .int .i64 d) (t := 25) T1.out (by simp)
          obtain ⟨j0, j1, j2, j3, j4⟩ := Has.c4 (g := w.heap.size + 1) (x := .int .i64 0) (y := .int .i64 q) (z := .int .i64 r) (u := .int .i64 s) (t := 25) T1.out (by simp)
          obtain ⟨k0, k1, k2, k3, k4⟩ := Has.c4 (g := w.heap.size + 1 + 1) (x := .int .i64 0) (y := .int .i64 0) (z := .int .i64 0) (u := .int .i64 0) (t := 25) T1.out (by simp)
          obtain ⟨k5, k6, k7, k8⟩ := Has.f4 (g := w.heap.size + 1 + 1) (cs := #[.int .i64 0, .int .i64 0, .int .i64 0, .int .i64 0]) (t := 25) T1.out (by simp)
          have T3 := Lib.hid (Has.put4 (g := w.heap.size + 1 + 1) (x := .int .i64 0) (y := .int .i64 0) (z := .int .i64 0) (u := .int .i64 0) (t := 25) (M := [(w.heap.size, #[.int .i64 a, .int .i64 b, .int .i64 c, .int .i64 d], 25)]) T1.out (.int .i64 0) (.int .i64 0) (.int .i64 0) (.int .i64 0) (by simp) (by simp <;> omega))
          go_wp2
          refine bodyPost_ret (res_cell_tmp rfl _ _ (w.heap.size + 1 + 1) 25 #[.int .i64 0, .int .i64 0, .int .i64 0, .int .i64 0] (0, 0) _ rfl (T3.out.row (by simp)) Try.underlying25 rfl info25) rfl ?_
          exact ⟨rfl, T3.out.1⟩
        · rw [if_neg (fun x => h3 x.2)]
          have hk : ¬ ((0 : Int) ≤ 0 ∧ 0 ≤ r) := fun x => h3 x.2
          have h4 : (0 : Int) ≤ 0 := by omega
          go_enter Try.func50, Try.ntmps50
          go_wp2_with fail
          with_reducible refine ((V.out) _).mono ?_
          rintro e w1 ⟨rfl, hb⟩
          have T1 := Lib.hid (T0.out.step hb)
          clear hb T0 V
          obtain ⟨h0, h1, h2, h3, h4⟩ := Has.c4 (g := w.heap.size) (x := .int .i64 a) (y := .int .i64 b) (z := .int .i64 c) (u := .int .i64 d) (t := 25) T1.out (by simp)
          obtain ⟨j0, j1, j2, j3, j4⟩ := Has.c4 (g := w.heap.size + 1) (x := .int .i64 0) (y := .int .i64 q) (z := .int .i64 r) (u := .int .i64 s) (t := 25) T1.out (by simp)
          go_wp2_with fail
          with_reducible refine (((CO.out hk)) _).mono ?_
          rintro e w2 ⟨rfl, hb⟩
          have T2 := Lib.hid (T1.out.step hb)
          clear hb T1 CO h0 h1 h2 h3 h4 j0 j1 j2 j3 j4
          obtain ⟨k0, k1, k2, k3, k4⟩ := Has.c4 (g := w.heap.size + 1 + 1) (x := .int .i64 0) (y := .int .i64 0) (z := .int .i64 0) (u := .int .i64 0) (t := 25) T2.out (by simp)
          obtain ⟨k5, k6, k7, k8⟩ := Has.f4 (g := w.heap.size + 1 + 1) (cs := #[.int .i64 0, .int .i64 0, .int .i64 0, .int .i64 0]) (t := 25) T2.out (by simp)
          have T3 := Lib.hid (Has.put4 (g := w.heap.size + 1 + 1) (x := .int .i64 0) (y := .int .i64 0) (z := .int .i64 0) (u := .int .i64 0) (t := 25) (M := [(w.heap.size, #[.int .i64 a, .int .i64 b, .int .i64 c, .int .i64 d], 25)]) T2.out (.int .i64 x) (.int .i64 y) (.int .i64 z) (.int .i64 u) (by simp) (by simp <;> omega))
          go_wp2
          refine bodyPost_ret (res_cell_tmp rfl _ _ (w.heap.size + 1 + 1) 25 #[.int .i64 x, .int .i64 y, .int .i64 z, .int .i64 u] (0, 0) _ rfl (T3.out.row (by simp)) Try.underlying25 rfl info25) rfl ?_
          exact ⟨rfl, T3.out.1⟩
    · rw [if_neg (fun x => h1 x.1)]
      by_cases h4 : p ≤ 0
      · by_cases h3 : 0 ≤ r
        · rw [if_pos ⟨h4, h3⟩]
          go_enter Try.func50, Try.ntmps50
          go_wp2_with fail
          with_reducible refine ((V.out) _).mono ?_
          rintro e w1 ⟨rfl, hb⟩
          have T1 := Lib.hid (T0.out.step hb)
          clear hb T0 V
          obtain ⟨h0, h1, h2, h3, h4⟩ := Has.c4 (g := w.heap.size) (x := .int .i64 a) (y := .int .i64 b) (z := .int .i64 c) (u := .int .i64 d) (t := 25) T1.out (by simp)
          obtain ⟨j0, j1, j2, j3, j4⟩ := Has.c4 (g := w.heap.size + 1) (x := .int .i64 p) (y := .int .i64 q) (z := .int .i64 r) (u := .int .i64 s) (t := 25) T1.out (by simp)
          obtain ⟨k0, k1, k2, k3, k4⟩ := Has.c4 (g := w.heap.size + 1 + 1) (x := .int .i64 0) (y := .int .i64 0) (z := .int .i64 0) (u := .int .i64 0) (t := 25) T1.out (by simp)
          obtain ⟨k5, k6, k7, k8⟩ := Has.f4 (g := w.heap.size + 1 + 1) (cs := #[.int .i64 0, .int .i64 0, .int .i64 0, .int .i64 0]) (t := 25) T1.out (by simp)
          have T3 := Lib.hid (Has.put4 (g := w.heap.size + 1 + 1) (x := .int .i64 0) (y := .int .i64 0) (z := .int .i64 0) (u := .int .i64 0) (t := 25) (M := [(w.heap.size, #[.int .i64 a, .int .i64 b, .int .i64 c, .int .i64 d], 25)]) T1.out (.int .i64 0) (.int .i64 0) (.int .i64 0) (.int .i64 0) (by simp) (by simp <;> omega))
          go_wp2
          refine bodyPost_ret (res_cell_tmp rfl _ _ (w.heap.size + 1 + 1) 25 #[.int .i64 0, .int .i64 0, .int .i64 0, .int .i64 0] (0, 0) _ rfl (T3.out.row (by simp)) Try.underlying25 rfl info25) rfl ?_
          exact ⟨rfl, T3.out.1⟩
        · rw [if_neg (fun x => h3 x.2)]
          have hk : ¬ (p ≤ 0 ∧ 0 ≤ r) := fun x => h3 x.2
          go_enter Try.func50, Try.ntmps50
          go_wp2_with fail
          with_reducible refine ((V.out) _).mono ?_
          rintro e w1 ⟨rfl, hb⟩
          have T1 := Lib.hid (T0.out.step hb)
          clear hb T0 V
          obtain ⟨h0, h1, h2, h3, h4⟩ := Has.c4 (g := w.heap.size) (x := .int .i64 a) (y := .int .i64 b) (z := .int .i64 c) (u := .int .i64 d) (t := 25) T1.out (by simp)
          obtain ⟨j0, j1, j2, j3, j4⟩ := Has.c4 (g := w.heap.size + 1) (x := .int .i64 p) (y := .int .i64 q) (z := .int .i64 r) (u := .int .i64 s) (t := 25) T1.out (by simp)
          go_wp2_with fail
          with_reducible refine (((CO.out hk)) _).mono ?_
          rintro e w2 ⟨rfl, hb⟩
          have T2 := Lib.hid (T1.out.step hb)
          clear hb T1 CO h0 h1 h2 h3 h4 j0 j1 j2 j3 j4
          obtain ⟨k0, k1, k2, k3, k4⟩ := Has.c4 (g := w.heap.size + 1 + 1) (x := .int .i64 0) (y := .int .i64 0) (z := .int .i64 0) (u := .int .i64 0) (t := 25) T2.out (by simp)
          obtain ⟨k5, k6, k7, k8⟩ := Has.f4 (g := w.heap.size + 1 + 1) (cs := #[.int .i64 0, .int .i64 0, .int .i64 0, .int .i64 0]) (t := 25) T2.out (by simp)
          have T3 := Lib.hid (Has.put4 (g := w.heap.size + 1 + 1) (x := .int .i64 0) (y := .int .i64 0) (z := .int .i64 0) (u := .int .i64 0) (t := 25) (M := [(w.heap.size, #[.int .i64 a, .int .i64 b, .int .i64 c, .int .i64 d], 25)]) T2.out (.int .i64 x) (.int .i64 y) (.int .i64 z) (.int .i64 u) (by simp) (by simp <;> omega))
          go_wp2
          refine bodyPost_ret (res_cell_tmp rfl _ _ (w.heap.size + 1 + 1) 25 #[.int .i64 x, .int .i64 y, .int .i64 z, .int .i64 u] (0, 0) _ rfl (T3.out.row (by simp)) Try.underlying25 rfl info25) rfl ?_
          exact ⟨rfl, T3.out.1⟩
      · rw [if_neg (fun x => h4 x.1)]
        have hk : ¬ (p ≤ 0 ∧ 0 ≤ r) := fun x => h4 x.1
        go_enter Try.func50, Try.ntmps50
        go_wp2_with fail
        with_reducible refine ((V.out) _).mono ?_
        rintro e w1 ⟨rfl, hb⟩
        have T1 := Lib.hid (T0.out.step hb)
        clear hb T0 V
        obtain ⟨h0, h1, h2, h3, h4⟩ := Has.c4 (g := w.heap.size) (x := .int .i64 a) (y := .int .i64 b) (z := .int .i64 c) (u := .int .i64 d) (t := 25) T1.out (by simp)
        obtain ⟨j0, j1, j2, j3, j4⟩ := Has.c4 (g := w.heap.size + 1) (x := .int .i64 p) (y := .int .i64 q) (z := .int .i64 r) (u := .int .i64 s) (t := 25) T1.out (by simp)
        go_wp2_with fail
        with_reducible refine (((CO.out hk)) _).mono ?_
        rintro e w2 ⟨rfl, hb⟩
        have T2 := Lib.hid (T1.out.step hb)
        clear hb T1 CO h0 h1 h2 h3 h4 j0 j1 j2 j3 j4
        obtain ⟨k0, k1, k2, k3, k4⟩ := Has.c4 (g := w.heap.size + 1 + 1) (x := .int .i64 0) (y := .int .i64 0) (z := .int .i64 0) (u := .int .i64 0) (t := 25) T2.out (by simp)
        obtain ⟨k5, k6, k7, k8⟩ := Has.f4 (g := w.heap.size + 1 + 1) (cs := #[.int .i64 0, .int .i64 0, .int .i64 0, .int .i64 0]) (t := 25) T2.out (by simp)
        have T3 := Lib.hid (Has.put4 (g := w.heap.size + 1 + 1) (x := .int .i64 0) (y := .int .i64 0) (z := .int .i64 0) (u := .int .i64 0) (t := 25) (M := [(w.heap.size, #[.int .i64 a, .int .i64 b, .int .i64 c, .int .i64 d], 25)]) T2.out (.int .i64 x) (.int .i64 y) (.int .i64 z) (.int .i64 u) (by simp) (by simp <;> omega))
        go_wp2
        refine bodyPost_ret (res_cell_tmp rfl _ _ (w.heap.size + 1 + 1) 25 #[.int .i64 x, .int .i64 y, .int .i64 z, .int .i64 u] (0, 0) _ rfl (T3.out.row (by simp)) Try.underlying25 rfl info25) rfl ?_
        exact ⟨rfl, T3.out.1⟩
end Go.Proofs.Ytbiegbnncnjnmaa.Iv
