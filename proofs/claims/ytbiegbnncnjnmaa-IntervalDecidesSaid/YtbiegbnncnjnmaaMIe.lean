/- The contracts of the reference of layer 4 (interval): Compare. -/
import Derived.Test.YtbiegbnncnjnmaaMIb
set_option linter.unusedVariables false
set_option linter.unusedSimpArgs false
namespace Go.Proofs.Ytbiegbnncnjnmaa.Iv
open Go.RowKit
open Go.Proofs.Ytbiegbnncnjnmaa.Pro

def fin (always never : Prop) [Decidable always] [Decidable never] : Int := if always then 1 else if never then 0 else -1
/-- What a comparison of two valid intervals is, by three comparisons of ends: x.Hi with y.Lo, y.Hi with x.Lo, x.Lo with y.Hi. -/
def icmp (op m1 m2 m3 : Int) : Int :=
  if op = 5 then fin (m3 = 0 ∧ m1 = 0) (m1 < 0 ∨ m2 < 0) else if op = 6 then fin (m1 < 0 ∨ m2 < 0) (m3 = 0 ∧ m1 = 0) else
  if op = 7 then fin (m1 < 0) (0 ≤ m3) else if op = 10 then fin (0 ≤ m3) (m1 < 0) else
  if op = 8 then fin (m1 ≤ 0) (0 < m3) else if op = 9 then fin (0 < m3) (m1 ≤ 0) else -1
set_option maxHeartbeats 1000000 in
theorem icompare5 (a b c d p q r s m1 m2 m3 : Int)
    (V : Hid (∀ w : World, Calls Try.prog 41 #[.agg #[.int .i64 a, .int .i64 b, .int .i64 c, .int .i64 d], .agg #[.int .i64 p, .int .i64 q, .int .i64 r, .int .i64 s]] w fun e w' => e = .returned (.bool true) ∧ Below w.heap.size w w'))
    (M1 : Hid (∀ w : World, Calls Try.prog 39 #[.agg #[.int .i64 c, .int .i64 d], .agg #[.int .i64 p, .int .i64 q]] w fun e w' => e = .returned (.int .i64 m1) ∧ Below w.heap.size w w'))
    (M2 : Hid (∀ w : World, Calls Try.prog 39 #[.agg #[.int .i64 r, .int .i64 s], .agg #[.int .i64 a, .int .i64 b]] w fun e w' => e = .returned (.int .i64 m2) ∧ Below w.heap.size w w'))
    (M3 : Hid (∀ w : World, Calls Try.prog 39 #[.agg #[.int .i64 a, .int .i64 b], .agg #[.int .i64 r, .int .i64 s]] w fun e w' => e = .returned (.int .i64 m3) ∧ Below w.heap.size w w'))
    (w : World) : Calls Try.prog 29 #[.int .i64 5, .agg #[.int .i64 a, .int .i64 b, .int .i64 c, .int .i64 d], .agg #[.int .i64 p, .int .i64 q, .int .i64 r, .int .i64 s]] w fun e w' => e = .returned (.int .i64 (icmp 5 m1 m2 m3)) ∧ Below w.heap.size w w' := by
  have T0 := Lib.hid (two0 w #[.int .i64 a, .int .i64 b, .int .i64 c, .int .i64 d] #[.int .i64 p, .int .i64 q, .int .i64 r, .int .i64 s] 25 25)
  by_cases h1 : m1 < 0
  · skip
    by_cases h3 : m3 = 0
    · have h4 : ¬ m1 = 0 := by omega
      rw [show icmp 5 m1 m2 m3 = 0 from by unfold icmp fin; (repeat' split) <;> omega]
      go_enter Try.func29, Try.ntmps29
      go_wp2_with fail
      with_reducible refine ((V.out) _).mono ?_
      rintro e w0 ⟨rfl, hb⟩
      have T1 := Lib.hid (T0.out.step hb)
      clear hb T0 V
      obtain ⟨x0, x1, x2, x3, x4⟩ := Has.c4 (g := w.heap.size) (x := .int .i64 a) (y := .int .i64 b) (z := .int .i64 c) (u := .int .i64 d) (t := 25) T1.out (by simp)
      obtain ⟨y0, y1, y2, y3, y4⟩ := Has.c4 (g := w.heap.size + 1) (x := .int .i64 p) (y := .int .i64 q) (z := .int .i64 r) (u := .int .i64 s) (t := 25) T1.out (by simp)
      go_wp2_with fail
      with_reducible refine ((M1.out) _).mono ?_
      rintro e w1 ⟨rfl, hb⟩
      have T2 := Lib.hid (T1.out.step hb)
      clear hb T1 x0 x1 x2 x3 x4 y0 y1 y2 y3 y4
      obtain ⟨x0, x1, x2, x3, x4⟩ := Has.c4 (g := w.heap.size) (x := .int .i64 a) (y := .int .i64 b) (z := .int .i64 c) (u := .int .i64 d) (t := 25) T2.out (by simp)
      obtain ⟨y0, y1, y2, y3, y4⟩ := Has.c4 (g := w.heap.size + 1) (x := .int .i64 p) (y := .int .i64 q) (z := .int .i64 r) (u := .int .i64 s) (t := 25) T2.out (by simp)
      go_wp2_with fail
      with_reducible refine ((M3.out) _).mono ?_
      rintro e w2 ⟨rfl, hb⟩
      have T3 := Lib.hid (T2.out.step hb)
      clear hb T2 x0 x1 x2 x3 x4 y0 y1 y2 y3 y4
      obtain ⟨x0, x1, x2, x3, x4⟩ := Has.c4 (g := w.heap.size) (x := .int .i64 a) (y := .int .i64 b) (z := .int .i64 c) (u := .int .i64 d) (t := 25) T3.out (by simp)
      obtain ⟨y0, y1, y2, y3, y4⟩ := Has.c4 (g := w.heap.size + 1) (x := .int .i64 p) (y := .int .i64 q) (z := .int .i64 r) (u := .int .i64 s) (t := 25) T3.out (by simp)
      go_wp2_with fail
      with_reducible refine ((M1.out) _).mono ?_
      rintro e w3 ⟨rfl, hb⟩
      have T4 := Lib.hid (T3.out.step hb)
      clear hb T3 x0 x1 x2 x3 x4 y0 y1 y2 y3 y4
      obtain ⟨x0, x1, x2, x3, x4⟩ := Has.c4 (g := w.heap.size) (x := .int .i64 a) (y := .int .i64 b) (z := .int .i64 c) (u := .int .i64 d) (t := 25) T4.out (by simp)
      obtain ⟨y0, y1, y2, y3, y4⟩ := Has.c4 (g := w.heap.size + 1) (x := .int .i64 p) (y := .int .i64 q) (z := .int .i64 r) (u := .int .i64 s) (t := 25) T4.out (by simp)
      go_wp2
      go_ret
      refine ⟨?_, T4.out.1⟩
      first | rfl | (simp [*]; done)
    · skip
      rw [show icmp 5 m1 m2 m3 = 0 from by unfold icmp fin; (repeat' split) <;> omega]
      go_enter Try.func29, Try.ntmps29
      go_wp2_with fail
      with_reducible refine ((V.out) _).mono ?_
      rintro e w0 ⟨rfl, hb⟩
      have T1 := Lib.hid (T0.out.step hb)
      clear hb T0 V
      obtain ⟨x0, x1, x2, x3, x4⟩ := Has.c4 (g := w.heap.size) (x := .int .i64 a) (y := .int .i64 b) (z := .int .i64 c) (u := .int .i64 d) (t := 25) T1.out (by simp)
      obtain ⟨y0, y1, y2, y3, y4⟩ := Has.c4 (g := w.heap.size + 1) (x := .int .i64 p) (y := .int .i64 q) (z := .int .i64 r) (u := .int .i64 s) (t := 25) T1.out (by simp)
      go_wp2_with fail
      with_reducible refine ((M1.out) _).mono ?_
      rintro e w1 ⟨rfl, hb⟩
      have T2 := Lib.hid (T1.out.step hb)
      clear hb T1 x0 x1 x2 x3 x4 y0 y1 y2 y3 y4
      obtain ⟨x0, x1, x2, x3, x4⟩ := Has.c4 (g := w.heap.size) (x := .int .i64 a) (y := .int .i64 b) (z := .int .i64 c) (u := .int .i64 d) (t := 25) T2.out (by simp)
      obtain ⟨y0, y1, y2, y3, y4⟩ := Has.c4 (g := w.heap.size + 1) (x := .int .i64 p) (y := .int .i64 q) (z := .int .i64 r) (u := .int .i64 s) (t := 25) T2.out (by simp)
      go_wp2_with fail
      with_reducible refine ((M3.out) _).mono ?_
      rintro e w2 ⟨rfl, hb⟩
      have T3 := Lib.hid (T2.out.step hb)
      clear hb T2 x0 x1 x2 x3 x4 y0 y1 y2 y3 y4
      obtain ⟨x0, x1, x2, x3, x4⟩ := Has.c4 (g := w.heap.size) (x := .int .i64 a) (y := .int .i64 b) (z := .int .i64 c) (u := .int .i64 d) (t := 25) T3.out (by simp)
      obtain ⟨y0, y1, y2, y3, y4⟩ := Has.c4 (g := w.heap.size + 1) (x := .int .i64 p) (y := .int .i64 q) (z := .int .i64 r) (u := .int .i64 s) (t := 25) T3.out (by simp)
      go_wp2
      go_ret
      refine ⟨?_, T3.out.1⟩
      first | rfl | (simp [*]; done)
  · by_cases h2 : m2 < 0
    · skip
      by_cases h3 : m3 = 0
      · by_cases h4 : m1 = 0
        · skip
          rw [show icmp 5 m1 m2 m3 = 1 from by unfold icmp fin; (repeat' split) <;> omega]
          go_enter Try.func29, Try.ntmps29
          go_wp2_with fail
          with_reducible refine ((V.out) _).mono ?_
          rintro e w0 ⟨rfl, hb⟩
          have T1 := Lib.hid (T0.out.step hb)
          clear hb T0 V
          obtain ⟨x0, x1, x2, x3, x4⟩ := Has.c4 (g := w.heap.size) (x := .int .i64 a) (y := .int .i64 b) (z := .int .i64 c) (u := .int .i64 d) (t := 25) T1.out (by simp)
          obtain ⟨y0, y1, y2, y3, y4⟩ := Has.c4 (g := w.heap.size + 1) (x := .int .i64 p) (y := .int .i64 q) (z := .int .i64 r) (u := .int .i64 s) (t := 25) T1.out (by simp)
          go_wp2_with fail
          with_reducible refine ((M1.out) _).mono ?_
          rintro e w1 ⟨rfl, hb⟩
          have T2 := Lib.hid (T1.out.step hb)
          clear hb T1 x0 x1 x2 x3 x4 y0 y1 y2 y3 y4
          obtain ⟨x0, x1, x2, x3, x4⟩ := Has.c4 (g := w.heap.size) (x := .int .i64 a) (y := .int .i64 b) (z := .int .i64 c) (u := .int .i64 d) (t := 25) T2.out (by simp)
          obtain ⟨y0, y1, y2, y3, y4⟩ := Has.c4 (g := w.heap.size + 1) (x := .int .i64 p) (y := .int .i64 q) (z := .int .i64 r) (u := .int .i64 s) (t := 25) T2.out (by simp)
          go_wp2_with fail
          with_reducible refine ((M2.out) _).mono ?_
          rintro e w2 ⟨rfl, hb⟩
          have T3 := Lib.hid (T2.out.step hb)
          clear hb T2 x0 x1 x2 x3 x4 y0 y1 y2 y3 y4
          obtain ⟨x0, x1, x2, x3, x4⟩ := Has.c4 (g := w.heap.size) (x := .int .i64 a) (y := .int .i64 b) (z := .int .i64 c) (u := .int .i64 d) (t := 25) T3.out (by simp)
          obtain ⟨y0, y1, y2, y3, y4⟩ := Has.c4 (g := w.heap.size + 1) (x := .int .i64 p) (y := .int .i64 q) (z := .int .i64 r) (u := .int .i64 s) (t := 25) T3.out (by simp)
          go_wp2_with fail
          with_reducible refine ((M3.out) _).mono ?_
          rintro e w3 ⟨rfl, hb⟩
          have T4 := Lib.hid (T3.out.step hb)
          clear hb T3 x0 x1 x2 x3 x4 y0 y1 y2 y3 y4
          obtain ⟨x0, x1, x2, x3, x4⟩ := Has.c4 (g := w.heap.size) (x := .int .i64 a) (y := .int .i64 b) (z := .int .i64 c) (u := .int .i64 d) (t := 25) T4.out (by simp)
          obtain ⟨y0, y1, y2, y3, y4⟩ := Has.c4 (g := w.heap.size + 1) (x := .int .i64 p) (y := .int .i64 q) (z := .int .i64 r) (u := .int .i64 s) (t := 25) T4.out (by simp)
          go_wp2_with fail
          with_reducible refine ((M1.out) _).mono ?_
          rintro e w4 ⟨rfl, hb⟩
          have T5 := Lib.hid (T4.out.step hb)
          clear hb T4 x0 x1 x2 x3 x4 y0 y1 y2 y3 y4
          obtain ⟨x0, x1, x2, x3, x4⟩ := Has.c4 (g := w.heap.size) (x := .int .i64 a) (y := .int .i64 b) (z := .int .i64 c) (u := .int .i64 d) (t := 25) T5.out (by simp)
          obtain ⟨y0, y1, y2, y3, y4⟩ := Has.c4 (g := w.heap.size + 1) (x := .int .i64 p) (y := .int .i64 q) (z := .int .i64 r) (u := .int .i64 s) (t := 25) T5.out (by simp)
          go_wp2
          go_ret
          refine ⟨?_, T5.out.1⟩
          first | rfl | (simp [*]; done)
        · skip
          rw [show icmp 5 m1 m2 m3 = 0 from by unfold icmp fin; (repeat' split) <;> omega]
          go_enter Try.func29, Try.ntmps29
          go_wp2_with fail
          with_reducible refine ((V.out) _).mono ?_
          rintro e w0 ⟨rfl, hb⟩
          have T1 := Lib.hid (T0.out.step hb)
          clear hb T0 V
          obtain ⟨x0, x1, x2, x3, x4⟩ := Has.c4 (g := w.heap.size) (x := .int .i64 a) (y := .int .i64 b) (z := .int .i64 c) (u := .int .i64 d) (t := 25) T1.out (by simp)
          obtain ⟨y0, y1, y2, y3, y4⟩ := Has.c4 (g := w.heap.size + 1) (x := .int .i64 p) (y := .int .i64 q) (z := .int .i64 r) (u := .int .i64 s) (t := 25) T1.out (by simp)
          go_wp2_with fail
          with_reducible refine ((M1.out) _).mono ?_
          rintro e w1 ⟨rfl, hb⟩
          have T2 := Lib.hid (T1.out.step hb)
          clear hb T1 x0 x1 x2 x3 x4 y0 y1 y2 y3 y4
          obtain ⟨x0, x1, x2, x3, x4⟩ := Has.c4 (g := w.heap.size) (x := .int .i64 a) (y := .int .i64 b) (z := .int .i64 c) (u := .int .i64 d) (t := 25) T2.out (by simp)
          obtain ⟨y0, y1, y2, y3, y4⟩ := Has.c4 (g := w.heap.size + 1) (x := .int .i64 p) (y := .int .i64 q) (z := .int .i64 r) (u := .int .i64 s) (t := 25) T2.out (by simp)
          go_wp2_with fail
          with_reducible refine ((M2.out) _).mono ?_
          rintro e w2 ⟨rfl, hb⟩
          have T3 := Lib.hid (T2.out.step hb)
          clear hb T2 x0 x1 x2 x3 x4 y0 y1 y2 y3 y4
          obtain ⟨x0, x1, x2, x3, x4⟩ := Has.c4 (g := w.heap.size) (x := .int .i64 a) (y := .int .i64 b) (z := .int .i64 c) (u := .int .i64 d) (t := 25) T3.out (by simp)
          obtain ⟨y0, y1, y2, y3, y4⟩ := Has.c4 (g := w.heap.size + 1) (x := .int .i64 p) (y := .int .i64 q) (z := .int .i64 r) (u := .int .i64 s) (t := 25) T3.out (by simp)
          go_wp2_with fail
          with_reducible refine ((M3.out) _).mono ?_
          rintro e w3 ⟨rfl, hb⟩
          have T4 := Lib.hid (T3.out.step hb)
          clear hb T3 x0 x1 x2 x3 x4 y0 y1 y2 y3 y4
          obtain ⟨x0, x1, x2, x3, x4⟩ := Has.c4 (g := w.heap.size) (x := .int .i64 a) (y := .int .i64 b) (z := .int .i64 c) (u := .int .i64 d) (t := 25) T4.out (by simp)
          obtain ⟨y0, y1, y2, y3, y4⟩ := Has.c4 (g := w.heap.size + 1) (x := .int .i64 p) (y := .int .i64 q) (z := .int .i64 r) (u := .int .i64 s) (t := 25) T4.out (by simp)
          go_wp2_with fail
          with_reducible refine ((M1.out) _).mono ?_
          rintro e w4 ⟨rfl, hb⟩
          have T5 := Lib.hid (T4.out.step hb)
          clear hb T4 x0 x1 x2 x3 x4 y0 y1 y2 y3 y4
          obtain ⟨x0, x1, x2, x3, x4⟩ := Has.c4 (g := w.heap.size) (x := .int .i64 a) (y := .int .i64 b) (z := .int .i64 c) (u := .int .i64 d) (t := 25) T5.out (by simp)
          obtain ⟨y0, y1, y2, y3, y4⟩ := Has.c4 (g := w.heap.size + 1) (x := .int .i64 p) (y := .int .i64 q) (z := .int .i64 r) (u := .int .i64 s) (t := 25) T5.out (by simp)
          go_wp2
          go_ret
          refine ⟨?_, T5.out.1⟩
          first | rfl | (simp [*]; done)
      · skip
        rw [show icmp 5 m1 m2 m3 = 0 from by unfold icmp fin; (repeat' split) <;> omega]
        go_enter Try.func29, Try.ntmps29
        go_wp2_with fail
        with_reducible refine ((V.out) _).mono ?_
        rintro e w0 ⟨rfl, hb⟩
        have T1 := Lib.hid (T0.out.step hb)
        clear hb T0 V
        obtain ⟨x0, x1, x2, x3, x4⟩ := Has.c4 (g := w.heap.size) (x := .int .i64 a) (y := .int .i64 b) (z := .int .i64 c) (u := .int .i64 d) (t := 25) T1.out (by simp)
        obtain ⟨y0, y1, y2, y3, y4⟩ := Has.c4 (g := w.heap.size + 1) (x := .int .i64 p) (y := .int .i64 q) (z := .int .i64 r) (u := .int .i64 s) (t := 25) T1.out (by simp)
        go_wp2_with fail
        with_reducible refine ((M1.out) _).mono ?_
        rintro e w1 ⟨rfl, hb⟩
        have T2 := Lib.hid (T1.out.step hb)
        clear hb T1 x0 x1 x2 x3 x4 y0 y1 y2 y3 y4
        obtain ⟨x0, x1, x2, x3, x4⟩ := Has.c4 (g := w.heap.size) (x := .int .i64 a) (y := .int .i64 b) (z := .int .i64 c) (u := .int .i64 d) (t := 25) T2.out (by simp)
        obtain ⟨y0, y1, y2, y3, y4⟩ := Has.c4 (g := w.heap.size + 1) (x := .int .i64 p) (y := .int .i64 q) (z := .int .i64 r) (u := .int .i64 s) (t := 25) T2.out (by simp)
        go_wp2_with fail
        with_reducible refine ((M2.out) _).mono ?_
        rintro e w2 ⟨rfl, hb⟩
        have T3 := Lib.hid (T2.out.step hb)
        clear hb T2 x0 x1 x2 x3 x4 y0 y1 y2 y3 y4
        obtain ⟨x0, x1, x2, x3, x4⟩ := Has.c4 (g := w.heap.size) (x := .int .i64 a) (y := .int .i64 b) (z := .int .i64 c) (u := .int .i64 d) (t := 25) T3.out (by simp)
        obtain ⟨y0, y1, y2, y3, y4⟩ := Has.c4 (g := w.heap.size + 1) (x := .int .i64 p) (y := .int .i64 q) (z := .int .i64 r) (u := .int .i64 s) (t := 25) T3.out (by simp)
        go_wp2_with fail
        with_reducible refine ((M3.out) _).mono ?_
        rintro e w3 ⟨rfl, hb⟩
        have T4 := Lib.hid (T3.out.step hb)
        clear hb T3 x0 x1 x2 x3 x4 y0 y1 y2 y3 y4
        obtain ⟨x0, x1, x2, x3, x4⟩ := Has.c4 (g := w.heap.size) (x := .int .i64 a) (y := .int .i64 b) (z := .int .i64 c) (u := .int .i64 d) (t := 25) T4.out (by simp)
        obtain ⟨y0, y1, y2, y3, y4⟩ := Has.c4 (g := w.heap.size + 1) (x := .int .i64 p) (y := .int .i64 q) (z := .int .i64 r) (u := .int .i64 s) (t := 25) T4.out (by simp)
        go_wp2
        go_ret
        refine ⟨?_, T4.out.1⟩
        first | rfl | (simp [*]; done)
    · skip
      by_cases h3 : m3 = 0
      · by_cases h4 : m1 = 0
        · skip
          rw [show icmp 5 m1 m2 m3 = 1 from by unfold icmp fin; (repeat' split) <;> omega]
          go_enter Try.func29, Try.ntmps29
          go_wp2_with fail
          with_reducible refine ((V.out) _).mono ?_
          rintro e w0 ⟨rfl, hb⟩
          have T1 := Lib.hid (T0.out.step hb)
          clear hb T0 V
          obtain ⟨x0, x1, x2, x3, x4⟩ := Has.c4 (g := w.heap.size) (x := .int .i64 a) (y := .int .i64 b) (z := .int .i64 c) (u := .int .i64 d) (t := 25) T1.out (by simp)
          obtain ⟨y0, y1, y2, y3, y4⟩ := Has.c4 (g := w.heap.size + 1) (x := .int .i64 p) (y := .int .i64 q) (z := .int .i64 r) (u := .int .i64 s) (t := 25) T1.out (by simp)
          go_wp2_with fail
          with_reducible refine ((M1.out) _).mono ?_
          rintro e w1 ⟨rfl, hb⟩
          have T2 := Lib.hid (T1.out.step hb)
          clear hb T1 x0 x1 x2 x3 x4 y0 y1 y2 y3 y4
          obtain ⟨x0, x1, x2, x3, x4⟩ := Has.c4 (g := w.heap.size) (x := .int .i64 a) (y := .int .i64 b) (z := .int .i64 c) (u := .int .i64 d) (t := 25) T2.out (by simp)
          obtain ⟨y0, y1, y2, y3, y4⟩ := Has.c4 (g := w.heap.size + 1) (x := .int .i64 p) (y := .int .i64 q) (z := .int .i64 r) (u := .int .i64 s) (t := 25) T2.out (by simp)
          go_wp2_with fail
          with_reducible refine ((M2.out) _).mono ?_
          rintro e w2 ⟨rfl, hb⟩
          have T3 := Lib.hid (T2.out.step hb)
          clear hb T2 x0 x1 x2 x3 x4 y0 y1 y2 y3 y4
          obtain ⟨x0, x1, x2, x3, x4⟩ := Has.c4 (g := w.heap.size) (x := .int .i64 a) (y := .int .i64 b) (z := .int .i64 c) (u := .int .i64 d) (t := 25) T3.out (by simp)
          obtain ⟨y0, y1, y2, y3, y4⟩ := Has.c4 (g := w.heap.size + 1) (x := .int .i64 p) (y := .int .i64 q) (z := .int .i64 r) (u := .int .i64 s) (t := 25) T3.out (by simp)
          go_wp2_with fail
          with_reducible refine ((M3.out) _).mono ?_
          rintro e w3 ⟨rfl, hb⟩
          have T4 := Lib.hid (T3.out.step hb)
          clear hb T3 x0 x1 x2 x3 x4 y0 y1 y2 y3 y4
          obtain ⟨x0, x1, x2, x3, x4⟩ := Has.c4 (g := w.heap.size) (x := .int .i64 a) (y := .int .i64 b) (z := .int .i64 c) (u := .int .i64 d) (t := 25) T4.out (by simp)
          obtain ⟨y0, y1, y2, y3, y4⟩ := Has.c4 (g := w.heap.size + 1) (x := .int .i64 p) (y := .int .i64 q) (z := .int .i64 r) (u := .int .i64 s) (t := 25) T4.out (by simp)
          go_wp2_with fail
          with_reducible refine ((M1.out) _).mono ?_
          rintro e w4 ⟨rfl, hb⟩
          have T5 := Lib.hid (T4.out.step hb)
          clear hb T4 x0 x1 x2 x3 x4 y0 y1 y2 y3 y4
          obtain ⟨x0, x1, x2, x3, x4⟩ := Has.c4 (g := w.heap.size) (x := .int .i64 a) (y := .int .i64 b) (z := .int .i64 c) (u := .int .i64 d) (t := 25) T5.out (by simp)
          obtain ⟨y0, y1, y2, y3, y4⟩ := Has.c4 (g := w.heap.size + 1) (x := .int .i64 p) (y := .int .i64 q) (z := .int .i64 r) (u := .int .i64 s) (t := 25) T5.out (by simp)
          go_wp2
          go_ret
          refine ⟨?_, T5.out.1⟩
          first | rfl | (simp [*]; done)
        · skip
          rw [show icmp 5 m1 m2 m3 = (-1) from by unfold icmp fin; (repeat' split) <;> omega]
          go_enter Try.func29, Try.ntmps29
          go_wp2_with fail
          with_reducible refine ((V.out) _).mono ?_
          rintro e w0 ⟨rfl, hb⟩
          have T1 := Lib.hid (T0.out.step hb)
          clear hb T0 V
          obtain ⟨x0, x1, x2, x3, x4⟩ := Has.c4 (g := w.heap.size) (x := .int .i64 a) (y := .int .i64 b) (z := .int .i64 c) (u := .int .i64 d) (t := 25) T1.out (by simp)
          obtain ⟨y0, y1, y2, y3, y4⟩ := Has.c4 (g := w.heap.size + 1) (x := .int .i64 p) (y := .int .i64 q) (z := .int .i64 r) (u := .int .i64 s) (t := 25) T1.out (by simp)
          go_wp2_with fail
          with_reducible refine ((M1.out) _).mono ?_
          rintro e w1 ⟨rfl, hb⟩
          have T2 := Lib.hid (T1.out.step hb)
          clear hb T1 x0 x1 x2 x3 x4 y0 y1 y2 y3 y4
          obtain ⟨x0, x1, x2, x3, x4⟩ := Has.c4 (g := w.heap.size) (x := .int .i64 a) (y := .int .i64 b) (z := .int .i64 c) (u := .int .i64 d) (t := 25) T2.out (by simp)
          obtain ⟨y0, y1, y2, y3, y4⟩ := Has.c4 (g := w.heap.size + 1) (x := .int .i64 p) (y := .int .i64 q) (z := .int .i64 r) (u := .int .i64 s) (t := 25) T2.out (by simp)
          go_wp2_with fail
          with_reducible refine ((M2.out) _).mono ?_
          rintro e w2 ⟨rfl, hb⟩
          have T3 := Lib.hid (T2.out.step hb)
          clear hb T2 x0 x1 x2 x3 x4 y0 y1 y2 y3 y4
          obtain ⟨x0, x1, x2, x3, x4⟩ := Has.c4 (g := w.heap.size) (x := .int .i64 a) (y := .int .i64 b) (z := .int .i64 c) (u := .int .i64 d) (t := 25) T3.out (by simp)
          obtain ⟨y0, y1, y2, y3, y4⟩ := Has.c4 (g := w.heap.size + 1) (x := .int .i64 p) (y := .int .i64 q) (z := .int .i64 r) (u := .int .i64 s) (t := 25) T3.out (by simp)
          go_wp2_with fail
          with_reducible refine ((M3.out) _).mono ?_
          rintro e w3 ⟨rfl, hb⟩
          have T4 := Lib.hid (T3.out.step hb)
          clear hb T3 x0 x1 x2 x3 x4 y0 y1 y2 y3 y4
          obtain ⟨x0, x1, x2, x3, x4⟩ := Has.c4 (g := w.heap.size) (x := .int .i64 a) (y := .int .i64 b) (z := .int .i64 c) (u := .int .i64 d) (t := 25) T4.out (by simp)
          obtain ⟨y0, y1, y2, y3, y4⟩ := Has.c4 (g := w.heap.size + 1) (x := .int .i64 p) (y := .int .i64 q) (z := .int .i64 r) (u := .int .i64 s) (t := 25) T4.out (by simp)
          go_wp2_with fail
          with_reducible refine ((M1.out) _).mono ?_
          rintro e w4 ⟨rfl, hb⟩
          have T5 := Lib.hid (T4.out.step hb)
          clear hb T4 x0 x1 x2 x3 x4 y0 y1 y2 y3 y4
          obtain ⟨x0, x1, x2, x3, x4⟩ := Has.c4 (g := w.heap.size) (x := .int .i64 a) (y := .int .i64 b) (z := .int .i64 c) (u := .int .i64 d) (t := 25) T5.out (by simp)
          obtain ⟨y0, y1, y2, y3, y4⟩ := Has.c4 (g := w.heap.size + 1) (x := .int .i64 p) (y := .int .i64 q) (z := .int .i64 r) (u := .int .i64 s) (t := 25) T5.out (by simp)
          go_wp2
          go_ret
          refine ⟨?_, T5.out.1⟩
          first | rfl | (simp [*]; done)
      · skip
        rw [show icmp 5 m1 m2 m3 = (-1) from by unfold icmp fin; (repeat' split) <;> omega]
        go_enter Try.func29, Try.ntmps29
        go_wp2_with fail
        with_reducible refine ((V.out) _).mono ?_
        rintro e w0 ⟨rfl, hb⟩
        have T1 := Lib.hid (T0.out.step hb)
        clear hb T0 V
        obtain ⟨x0, x1, x2, x3, x4⟩ := Has.c4 (g := w.heap.size) (x := .int .i64 a) (y := .int .i64 b) (z := .int .i64 c) (u := .int .i64 d) (t := 25) T1.out (by simp)
        obtain ⟨y0, y1, y2, y3, y4⟩ := Has.c4 (g := w.heap.size + 1) (x := .int .i64 p) (y := .int .i64 q) (z := .int .i64 r) (u := .int .i64 s) (t := 25) T1.out (by simp)
        go_wp2_with fail
        with_reducible refine ((M1.out) _).mono ?_
        rintro e w1 ⟨rfl, hb⟩
        have T2 := Lib.hid (T1.out.step hb)
        clear hb T1 x0 x1 x2 x3 x4 y0 y1 y2 y3 y4
        obtain ⟨x0, x1, x2, x3, x4⟩ := Has.c4 (g := w.heap.size) (x := .int .i64 a) (y := .int .i64 b) (z := .int .i64 c) (u := .int .i64 d) (t := 25) T2.out (by simp)
        obtain ⟨y0, y1, y2, y3, y4⟩ := Has.c4 (g := w.heap.size + 1) (x := .int .i64 p) (y := .int .i64 q) (z := .int .i64 r) (u := .int .i64 s) (t := 25) T2.out (by simp)
        go_wp2_with fail
        with_reducible refine ((M2.out) _).mono ?_
        rintro e w2 ⟨rfl, hb⟩
        have T3 := Lib.hid (T2.out.step hb)
        clear hb T2 x0 x1 x2 x3 x4 y0 y1 y2 y3 y4
        obtain ⟨x0, x1, x2, x3, x4⟩ := Has.c4 (g := w.heap.size) (x := .int .i64 a) (y := .int .i64 b) (z := .int .i64 c) (u := .int .i64 d) (t := 25) T3.out (by simp)
        obtain ⟨y0, y1, y2, y3, y4⟩ := Has.c4 (g := w.heap.size + 1) (x := .int .i64 p) (y := .int .i64 q) (z := .int .i64 r) (u := .int .i64 s) (t := 25) T3.out (by simp)
        go_wp2_with fail
        with_reducible refine ((M3.out) _).mono ?_
        rintro e w3 ⟨rfl, hb⟩
        have T4 := Lib.hid (T3.out.step hb)
        clear hb T3 x0 x1 x2 x3 x4 y0 y1 y2 y3 y4
        obtain ⟨x0, x1, x2, x3, x4⟩ := Has.c4 (g := w.heap.size) (x := .int .i64 a) (y := .int .i64 b) (z := .int .i64 c) (u := .int .i64 d) (t := 25) T4.out (by simp)
        obtain ⟨y0, y1, y2, y3, y4⟩ := Has.c4 (g := w.heap.size + 1) (x := .int .i64 p) (y := .int .i64 q) (z := .int .i64 r) (u := .int .i64 s) (t := 25) T4.out (by simp)
        go_wp2
        go_ret
        refine ⟨?_, T4.out.1⟩
        first | rfl | (simp [*]; done)
set_option maxHeartbeats 1000000 in
theorem icompare6 (a b c d p q r s m1 m2 m3 : Int)
    (V : Hid (∀ w : World, Calls Try.prog 41 #[.agg #[.int .i64 a, .int .i64 b, .int .i64 c, .int .i64 d], .agg #[.int .i64 p, .int .i64 q, .int .i64 r, .int .i64 s]] w fun e w' => e = .returned (.bool true) ∧ Below w.heap.size w w'))
    (M1 : Hid (∀ w : World, Calls Try.prog 39 #[.agg #[.int .i64 c, .int .i64 d], .agg #[.int .i64 p, .int .i64 q]] w fun e w' => e = .returned (.int .i64 m1) ∧ Below w.heap.size w w'))
    (M2 : Hid (∀ w : World, Calls Try.prog 39 #[.agg #[.int .i64 r, .int .i64 s], .agg #[.int .i64 a, .int .i64 b]] w fun e w' => e = .returned (.int .i64 m2) ∧ Below w.heap.size w w'))
    (M3 : Hid (∀ w : World, Calls Try.prog 39 #[.agg #[.int .i64 a, .int .i64 b], .agg #[.int .i64 r, .int .i64 s]] w fun e w' => e = .returned (.int .i64 m3) ∧ Below w.heap.size w w'))
    (w : World) : Calls Try.prog 29 #[.int .i64 6, .agg #[.int .i64 a, .int .i64 b, .int .i64 c, .int .i64 d], .agg #[.int .i64 p, .int .i64 q, .int .i64 r, .int .i64 s]] w fun e w' => e = .returned (.int .i64 (icmp 6 m1 m2 m3)) ∧ Below w.heap.size w w' := by
  have T0 := Lib.hid (two0 w #[.int .i64 a, .int .i64 b, .int .i64 c, .int .i64 d] #[.int .i64 p, .int .i64 q, .int .i64 r, .int .i64 s] 25 25)
  by_cases h1 : m1 < 0
  · skip
    by_cases h3 : m3 = 0
    · have h4 : ¬ m1 = 0 := by omega
      rw [show icmp 6 m1 m2 m3 = 1 from by unfold icmp fin; (repeat' split) <;> omega]
      go_enter Try.func29, Try.ntmps29
      go_wp2_with fail
      with_reducible refine ((V.out) _).mono ?_
      rintro e w0 ⟨rfl, hb⟩
      have T1 := Lib.hid (T0.out.step hb)
      clear hb T0 V
      obtain ⟨x0, x1, x2, x3, x4⟩ := Has.c4 (g := w.heap.size) (x := .int .i64 a) (y := .int .i64 b) (z := .int .i64 c) (u := .int .i64 d) (t := 25) T1.out (by simp)
      obtain ⟨y0, y1, y2, y3, y4⟩ := Has.c4 (g := w.heap.size + 1) (x := .int .i64 p) (y := .int .i64 q) (z := .int .i64 r) (u := .int .i64 s) (t := 25) T1.out (by simp)
      go_wp2_with fail
      with_reducible refine ((M1.out) _).mono ?_
      rintro e w1 ⟨rfl, hb⟩
      have T2 := Lib.hid (T1.out.step hb)
      clear hb T1 x0 x1 x2 x3 x4 y0 y1 y2 y3 y4
      obtain ⟨x0, x1, x2, x3, x4⟩ := Has.c4 (g := w.heap.size) (x := .int .i64 a) (y := .int .i64 b) (z := .int .i64 c) (u := .int .i64 d) (t := 25) T2.out (by simp)
      obtain ⟨y0, y1, y2, y3, y4⟩ := Has.c4 (g := w.heap.size + 1) (x := .int .i64 p) (y := .int .i64 q) (z := .int .i64 r) (u := .int .i64 s) (t := 25) T2.out (by simp)
      go_wp2_with fail
      with_reducible refine ((M3.out) _).mono ?_
      rintro e w2 ⟨rfl, hb⟩
      have T3 := Lib.hid (T2.out.step hb)
      clear hb T2 x0 x1 x2 x3 x4 y0 y1 y2 y3 y4
      obtain ⟨x0, x1, x2, x3, x4⟩ := Has.c4 (g := w.heap.size) (x := .int .i64 a) (y := .int .i64 b) (z := .int .i64 c) (u := .int .i64 d) (t := 25) T3.out (by simp)
      obtain ⟨y0, y1, y2, y3, y4⟩ := Has.c4 (g := w.heap.size + 1) (x := .int .i64 p) (y := .int .i64 q) (z := .int .i64 r) (u := .int .i64 s) (t := 25) T3.out (by simp)
      go_wp2_with fail
      with_reducible refine ((M1.out) _).mono ?_
      rintro e w3 ⟨rfl, hb⟩
      have T4 := Lib.hid (T3.out.step hb)
      clear hb T3 x0 x1 x2 x3 x4 y0 y1 y2 y3 y4
      obtain ⟨x0, x1, x2, x3, x4⟩ := Has.c4 (g := w.heap.size) (x := .int .i64 a) (y := .int .i64 b) (z := .int .i64 c) (u := .int .i64 d) (t := 25) T4.out (by simp)
      obtain ⟨y0, y1, y2, y3, y4⟩ := Has.c4 (g := w.heap.size + 1) (x := .int .i64 p) (y := .int .i64 q) (z := .int .i64 r) (u := .int .i64 s) (t := 25) T4.out (by simp)
      go_wp2
      go_ret
      refine ⟨?_, T4.out.1⟩
      first | rfl | (simp [*]; done)
    · skip
      rw [show icmp 6 m1 m2 m3 = 1 from by unfold icmp fin; (repeat' split) <;> omega]
      go_enter Try.func29, Try.ntmps29
      go_wp2_with fail
      with_reducible refine ((V.out) _).mono ?_
      rintro e w0 ⟨rfl, hb⟩
      have T1 := Lib.hid (T0.out.step hb)
      clear hb T0 V
      obtain ⟨x0, x1, x2, x3, x4⟩ := Has.c4 (g := w.heap.size) (x := .int .i64 a) (y := .int .i64 b) (z := .int .i64 c) (u := .int .i64 d) (t := 25) T1.out (by simp)
      obtain ⟨y0, y1, y2, y3, y4⟩ := Has.c4 (g := w.heap.size + 1) (x := .int .i64 p) (y := .int .i64 q) (z := .int .i64 r) (u := .int .i64 s) (t := 25) T1.out (by simp)
      go_wp2_with fail
      with_reducible refine ((M1.out) _).mono ?_
      rintro e w1 ⟨rfl, hb⟩
      have T2 := Lib.hid (T1.out.step hb)
      clear hb T1 x0 x1 x2 x3 x4 y0 y1 y2 y3 y4
      obtain ⟨x0, x1, x2, x3, x4⟩ := Has.c4 (g := w.heap.size) (x := .int .i64 a) (y := .int .i64 b) (z := .int .i64 c) (u := .int .i64 d) (t := 25) T2.out (by simp)
      obtain ⟨y0, y1, y2, y3, y4⟩ := Has.c4 (g := w.heap.size + 1) (x := .int .i64 p) (y := .int .i64 q) (z := .int .i64 r) (u := .int .i64 s) (t := 25) T2.out (by simp)
      go_wp2_with fail
      with_reducible refine ((M3.out) _).mono ?_
      rintro e w2 ⟨rfl, hb⟩
      have T3 := Lib.hid (T2.out.step hb)
      clear hb T2 x0 x1 x2 x3 x4 y0 y1 y2 y3 y4
      obtain ⟨x0, x1, x2, x3, x4⟩ := Has.c4 (g := w.heap.size) (x := .int .i64 a) (y := .int .i64 b) (z := .int .i64 c) (u := .int .i64 d) (t := 25) T3.out (by simp)
      obtain ⟨y0, y1, y2, y3, y4⟩ := Has.c4 (g := w.heap.size + 1) (x := .int .i64 p) (y := .int .i64 q) (z := .int .i64 r) (u := .int .i64 s) (t := 25) T3.out (by simp)
      go_wp2
      go_ret
      refine ⟨?_, T3.out.1⟩
      first | rfl | (simp [*]; done)
  · by_cases h2 : m2 < 0
    · skip
      by_cases h3 : m3 = 0
      · by_cases h4 : m1 = 0
        · skip
          rw [show icmp 6 m1 m2 m3 = 1 from by unfold icmp fin; (repeat' split) <;> omega]
          go_enter Try.func29, Try.ntmps29
          go_wp2_with fail
          with_reducible refine ((V.out) _).mono ?_
          rintro e w0 ⟨rfl, hb⟩
          have T1 := Lib.hid (T0.out.step hb)
          clear hb T0 V
          obtain ⟨x0, x1, x2, x3, x4⟩ := Has.c4 (g := w.heap.size) (x := .int .i64 a) (y := .int .i64 b) (z := .int .i64 c) (u := .int .i64 d) (t := 25) T1.out (by simp)
          obtain ⟨y0, y1, y2, y3, y4⟩ := Has.c4 (g := w.heap.size + 1) (x := .int .i64 p) (y := .int .i64 q) (z := .int .i64 r) (u := .int .i64 s) (t := 25) T1.out (by simp)
          go_wp2_with fail
          with_reducible refine ((M1.out) _).mono ?_
          rintro e w1 ⟨rfl, hb⟩
          have T2 := Lib.hid (T1.out.step hb)
          clear hb T1 x0 x1 x2 x3 x4 y0 y1 y2 y3 y4
          obtain ⟨x0, x1, x2, x3, x4⟩ := Has.c4 (g := w.heap.size) (x := .int .i64 a) (y := .int .i64 b) (z := .int .i64 c) (u := .int .i64 d) (t := 25) T2.out (by simp)
          obtain ⟨y0, y1, y2, y3, y4⟩ := Has.c4 (g := w.heap.size + 1) (x := .int .i64 p) (y := .int .i64 q) (z := .int .i64 r) (u := .int .i64 s) (t := 25) T2.out (by simp)
          go_wp2_with fail
          with_reducible refine ((M2.out) _).mono ?_
          rintro e w2 ⟨rfl, hb⟩
          have T3 := Lib.hid (T2.out.step hb)
          clear hb T2 x0 x1 x2 x3 x4 y0 y1 y2 y3 y4
          obtain ⟨x0, x1, x2, x3, x4⟩ := Has.c4 (g := w.heap.size) (x := .int .i64 a) (y := .int .i64 b) (z := .int .i64 c) (u := .int .i64 d) (t := 25) T3.out (by simp)
          obtain ⟨y0, y1, y2, y3, y4⟩ := Has.c4 (g := w.heap.size + 1) (x := .int .i64 p) (y := .int .i64 q) (z := .int .i64 r) (u := .int .i64 s) (t := 25) T3.out (by simp)
          go_wp2_with fail
          with_reducible refine ((M3.out) _).mono ?_
          rintro e w3 ⟨rfl, hb⟩
          have T4 := Lib.hid (T3.out.step hb)
          clear hb T3 x0 x1 x2 x3 x4 y0 y1 y2 y3 y4
          obtain ⟨x0, x1, x2, x3, x4⟩ := Has.c4 (g := w.heap.size) (x := .int .i64 a) (y := .int .i64 b) (z := .int .i64 c) (u := .int .i64 d) (t := 25) T4.out (by simp)
          obtain ⟨y0, y1, y2, y3, y4⟩ := Has.c4 (g := w.heap.size + 1) (x := .int .i64 p) (y := .int .i64 q) (z := .int .i64 r) (u := .int .i64 s) (t := 25) T4.out (by simp)
          go_wp2_with fail
          with_reducible refine ((M1.out) _).mono ?_
          rintro e w4 ⟨rfl, hb⟩
          have T5 := Lib.hid (T4.out.step hb)
          clear hb T4 x0 x1 x2 x3 x4 y0 y1 y2 y3 y4
          obtain ⟨x0, x1, x2, x3, x4⟩ := Has.c4 (g := w.heap.size) (x := .int .i64 a) (y := .int .i64 b) (z := .int .i64 c) (u := .int .i64 d) (t := 25) T5.out (by simp)
          obtain ⟨y0, y1, y2, y3, y4⟩ := Has.c4 (g := w.heap.size + 1) (x := .int .i64 p) (y := .int .i64 q) (z := .int .i64 r) (u := .int .i64 s) (t := 25) T5.out (by simp)
          go_wp2
          go_ret
          refine ⟨?_, T5.out.1⟩
          first | rfl | (simp [*]; done)
        · skip
          rw [show icmp 6 m1 m2 m3 = 1 from by unfold icmp fin; (repeat' split) <;> omega]
          go_enter Try.func29, Try.ntmps29
          go_wp2_with fail
          with_reducible refine ((V.out) _).mono ?_
          rintro e w0 ⟨rfl, hb⟩
          have T1 := Lib.hid (T0.out.step hb)
          clear hb T0 V
          obtain ⟨x0, x1, x2, x3, x4⟩ := Has.c4 (g := w.heap.size) (x := .int .i64 a) (y := .int .i64 b) (z := .int .i64 c) (u := .int .i64 d) (t := 25) T1.out (by simp)
          obtain ⟨y0, y1, y2, y3, y4⟩ := Has.c4 (g := w.heap.size + 1) (x := .int .i64 p) (y := .int .i64 q) (z := .int .i64 r) (u := .int .i64 s) (t := 25) T1.out (by simp)
          go_wp2_with fail
          with_reducible refine ((M1.out) _).mono ?_
          rintro e w1 ⟨rfl, hb⟩
          have T2 := Lib.hid (T1.out.step hb)
          clear hb T1 x0 x1 x2 x3 x4 y0 y1 y2 y3 y4
          obtain ⟨x0, x1, x2, x3, x4⟩ := Has.c4 (g := w.heap.size) (x := .int .i64 a) (y := .int .i64 b) (z := .int .i64 c) (u := .int .i64 d) (t := 25) T2.out (by simp)
          obtain ⟨y0, y1, y2, y3, y4⟩ := Has.c4 (g := w.heap.size + 1) (x := .int .i64 p) (y := .int .i64 q) (z := .int .i64 r) (u := .int .i64 s) (t := 25) T2.out (by simp)
          go_wp2_with fail
          with_reducible refine ((M2.out) _).mono ?_
          rintro e w2 ⟨rfl, hb⟩
          have T3 := Lib.hid (T2.out.step hb)
          clear hb T2 x0 x1 x2 x3 x4 y0 y1 y2 y3 y4
          obtain ⟨x0, x1, x2, x3, x4⟩ := Has.c4 (g := w.heap.size) (x := .int .i64 a) (y := .int .i64 b) (z := .int .i64 c) (u := .int .i64 d) (t := 25) T3.out (by simp)
          obtain ⟨y0, y1, y2, y3, y4⟩ := Has.c4 (g := w.heap.size + 1) (x := .int .i64 p) (y := .int .i64 q) (z := .int .i64 r) (u := .int .i64 s) (t := 25) T3.out (by simp)
          go_wp2_with fail
          with_reducible refine ((M3.out) _).mono ?_
          rintro e w3 ⟨rfl, hb⟩
          have T4 := Lib.hid (T3.out.step hb)
          clear hb T3 x0 x1 x2 x3 x4 y0 y1 y2 y3 y4
          obtain ⟨x0, x1, x2, x3, x4⟩ := Has.c4 (g := w.heap.size) (x := .int .i64 a) (y := .int .i64 b) (z := .int .i64 c) (u := .int .i64 d) (t := 25) T4.out (by simp)
          obtain ⟨y0, y1, y2, y3, y4⟩ := Has.c4 (g := w.heap.size + 1) (x := .int .i64 p) (y := .int .i64 q) (z := .int .i64 r) (u := .int .i64 s) (t := 25) T4.out (by simp)
          go_wp2_with fail
          with_reducible refine ((M1.out) _).mono ?_
          rintro e w4 ⟨rfl, hb⟩
          have T5 := Lib.hid (T4.out.step hb)
          clear hb T4 x0 x1 x2 x3 x4 y0 y1 y2 y3 y4
          obtain ⟨x0, x1, x2, x3, x4⟩ := Has.c4 (g := w.heap.size) (x := .int .i64 a) (y := .int .i64 b) (z := .int .i64 c) (u := .int .i64 d) (t := 25) T5.out (by simp)
          obtain ⟨y0, y1, y2, y3, y4⟩ := Has.c4 (g := w.heap.size + 1) (x := .int .i64 p) (y := .int .i64 q) (z := .int .i64 r) (u := .int .i64 s) (t := 25) T5.out (by simp)
          go_wp2
          go_ret
          refine ⟨?_, T5.out.1⟩
          first | rfl | (simp [*]; done)
      · skip
        rw [show icmp 6 m1 m2 m3 = 1 from by unfold icmp fin; (repeat' split) <;> omega]
        go_enter Try.func29, Try.ntmps29
        go_wp2_with fail
        with_reducible refine ((V.out) _).mono ?_
        rintro e w0 ⟨rfl, hb⟩
        have T1 := Lib.hid (T0.out.step hb)
        clear hb T0 V
        obtain ⟨x0, x1, x2, x3, x4⟩ := Has.c4 (g := w.heap.size) (x := .int .i64 a) (y := .int .i64 b) (z := .int .i64 c) (u := .int .i64 d) (t := 25) T1.out (by simp)
        obtain ⟨y0, y1, y2, y3, y4⟩ := Has.c4 (g := w.heap.size + 1) (x := .int .i64 p) (y := .int .i64 q) (z := .int .i64 r) (u := .int .i64 s) (t := 25) T1.out (by simp)
        go_wp2_with fail
        with_reducible refine ((M1.out) _).mono ?_
        rintro e w1 ⟨rfl, hb⟩
        have T2 := Lib.hid (T1.out.step hb)
        clear hb T1 x0 x1 x2 x3 x4 y0 y1 y2 y3 y4
        obtain ⟨x0, x1, x2, x3, x4⟩ := Has.c4 (g := w.heap.size) (x := .int .i64 a) (y := .int .i64 b) (z := .int .i64 c) (u := .int .i64 d) (t := 25) T2.out (by simp)
        obtain ⟨y0, y1, y2, y3, y4⟩ := Has.c4 (g := w.heap.size + 1) (x := .int .i64 p) (y := .int .i64 q) (z := .int .i64 r) (u := .int .i64 s) (t := 25) T2.out (by simp)
        go_wp2_with fail
        with_reducible refine ((M2.out) _).mono ?_
        rintro e w2 ⟨rfl, hb⟩
        have T3 := Lib.hid (T2.out.step hb)
        clear hb T2 x0 x1 x2 x3 x4 y0 y1 y2 y3 y4
        obtain ⟨x0, x1, x2, x3, x4⟩ := Has.c4 (g := w.heap.size) (x := .int .i64 a) (y := .int .i64 b) (z := .int .i64 c) (u := .int .i64 d) (t := 25) T3.out (by simp)
        obtain ⟨y0, y1, y2, y3, y4⟩ := Has.c4 (g := w.heap.size + 1) (x := .int .i64 p) (y := .int .i64 q) (z := .int .i64 r) (u := .int .i64 s) (t := 25) T3.out (by simp)
        go_wp2_with fail
        with_reducible refine ((M3.out) _).mono ?_
        rintro e w3 ⟨rfl, hb⟩
        have T4 := Lib.hid (T3.out.step hb)
        clear hb T3 x0 x1 x2 x3 x4 y0 y1 y2 y3 y4
        obtain ⟨x0, x1, x2, x3, x4⟩ := Has.c4 (g := w.heap.size) (x := .int .i64 a) (y := .int .i64 b) (z := .int .i64 c) (u := .int .i64 d) (t := 25) T4.out (by simp)
        obtain ⟨y0, y1, y2, y3, y4⟩ := Has.c4 (g := w.heap.size + 1) (x := .int .i64 p) (y := .int .i64 q) (z := .int .i64 r) (u := .int .i64 s) (t := 25) T4.out (by simp)
        go_wp2
        go_ret
        refine ⟨?_, T4.out.1⟩
        first | rfl | (simp [*]; done)
    · skip
      by_cases h3 : m3 = 0
      · by_cases h4 : m1 = 0
        · skip
          rw [show icmp 6 m1 m2 m3 = 0 from by unfold icmp fin; (repeat' split) <;> omega]
          go_enter Try.func29, Try.ntmps29
          go_wp2_with fail
          with_reducible refine ((V.out) _).mono ?_
          rintro e w0 ⟨rfl, hb⟩
          have T1 := Lib.hid (T0.out.step hb)
          clear hb T0 V
          obtain ⟨x0, x1, x2, x3, x4⟩ := Has.c4 (g := w.heap.size) (x := .int .i64 a) (y := .int .i64 b) (z := .int .i64 c) (u := .int .i64 d) (t := 25) T1.out (by simp)
          obtain ⟨y0, y1, y2, y3, y4⟩ := Has.c4 (g := w.heap.size + 1) (x := .int .i64 p) (y := .int .i64 q) (z := .int .i64 r) (u := .int .i64 s) (t := 25) T1.out (by simp)
          go_wp2_with fail
          with_reducible refine ((M1.out) _).mono ?_
          rintro e w1 ⟨rfl, hb⟩
          have T2 := Lib.hid (T1.out.step hb)
          clear hb T1 x0 x1 x2 x3 x4 y0 y1 y2 y3 y4
          obtain ⟨x0, x1, x2, x3, x4⟩ := Has.c4 (g := w.heap.size) (x := .int .i64 a) (y := .int .i64 b) (z := .int .i64 c) (u := .int .i64 d) (t := 25) T2.out (by simp)
          obtain ⟨y0, y1, y2, y3, y4⟩ := Has.c4 (g := w.heap.size + 1) (x := .int .i64 p) (y := .int .i64 q) (z := .int .i64 r) (u := .int .i64 s) (t := 25) T2.out (by simp)
          go_wp2_with fail
          with_reducible refine ((M2.out) _).mono ?_
          rintro e w2 ⟨rfl, hb⟩
          have T3 := Lib.hid (T2.out.step hb)
          clear hb T2 x0 x1 x2 x3 x4 y0 y1 y2 y3 y4
          obtain ⟨x0, x1, x2, x3, x4⟩ := Has.c4 (g := w.heap.size) (x := .int .i64 a) (y := .int .i64 b) (z := .int .i64 c) (u := .int .i64 d) (t := 25) T3.out (by simp)
          obtain ⟨y0, y1, y2, y3, y4⟩ := Has.c4 (g := w.heap.size + 1) (x := .int .i64 p) (y := .int .i64 q) (z := .int .i64 r) (u := .int .i64 s) (t := 25) T3.out (by simp)
          go_wp2_with fail
          with_reducible refine ((M3.out) _).mono ?_
          rintro e w3 ⟨rfl, hb⟩
          have T4 := Lib.hid (T3.out.step hb)
          clear hb T3 x0 x1 x2 x3 x4 y0 y1 y2 y3 y4
          obtain ⟨x0, x1, x2, x3, x4⟩ := Has.c4 (g := w.heap.size) (x := .int .i64 a) (y := .int .i64 b) (z := .int .i64 c) (u := .int .i64 d) (t := 25) T4.out (by simp)
          obtain ⟨y0, y1, y2, y3, y4⟩ := Has.c4 (g := w.heap.size + 1) (x := .int .i64 p) (y := .int .i64 q) (z := .int .i64 r) (u := .int .i64 s) (t := 25) T4.out (by simp)
          go_wp2_with fail
          with_reducible refine ((M1.out) _).mono ?_
          rintro e w4 ⟨rfl, hb⟩
          have T5 := Lib.hid (T4.out.step hb)
          clear hb T4 x0 x1 x2 x3 x4 y0 y1 y2 y3 y4
          obtain ⟨x0, x1, x2, x3, x4⟩ := Has.c4 (g := w.heap.size) (x := .int .i64 a) (y := .int .i64 b) (z := .int .i64 c) (u := .int .i64 d) (t := 25) T5.out (by simp)
          obtain ⟨y0, y1, y2, y3, y4⟩ := Has.c4 (g := w.heap.size + 1) (x := .int .i64 p) (y := .int .i64 q) (z := .int .i64 r) (u := .int .i64 s) (t := 25) T5.out (by simp)
          go_wp2
          go_ret
          refine ⟨?_, T5.out.1⟩
          first | rfl | (simp [*]; done)
        · skip
          rw [show icmp 6 m1 m2 m3 = (-1) from by unfold icmp fin; (repeat' split) <;> omega]
          go_enter Try.func29, Try.ntmps29
          go_wp2_with fail
          with_reducible refine ((V.out) _).mono ?_
          rintro e w0 ⟨rfl, hb⟩
          have T1 := Lib.hid (T0.out.step hb)
          clear hb T0 V
          obtain ⟨x0, x1, x2, x3, x4⟩ := Has.c4 (g := w.heap.size) (x := .int .i64 a) (y := .int .i64 b) (z := .int .i64 c) (u := .int .i64 d) (t := 25) T1.out (by simp)
          obtain ⟨y0, y1, y2, y3, y4⟩ := Has.c4 (g := w.heap.size + 1) (x := .int .i64 p) (y := .int .i64 q) (z := .int .i64 r) (u := .int .i64 s) (t := 25) T1.out (by simp)
          go_wp2_with fail
          with_reducible refine ((M1.out) _).mono ?_
          rintro e w1 ⟨rfl, hb⟩
          have T2 := Lib.hid (T1.out.step hb)
          clear hb T1 x0 x1 x2 x3 x4 y0 y1 y2 y3 y4
          obtain ⟨x0, x1, x2, x3, x4⟩ := Has.c4 (g := w.heap.size) (x := .int .i64 a) (y := .int .i64 b) (z := .int .i64 c) (u := .int .i64 d) (t := 25) T2.out (by simp)
          obtain ⟨y0, y1, y2, y3, y4⟩ := Has.c4 (g := w.heap.size + 1) (x := .int .i64 p) (y := .int .i64 q) (z := .int .i64 r) (u := .int .i64 s) (t := 25) T2.out (by simp)
          go_wp2_with fail
          with_reducible refine ((M2.out) _).mono ?_
          rintro e w2 ⟨rfl, hb⟩
          have T3 := Lib.hid (T2.out.step hb)
          clear hb T2 x0 x1 x2 x3 x4 y0 y1 y2 y3 y4
          obtain ⟨x0, x1, x2, x3, x4⟩ := Has.c4 (g := w.heap.size) (x := .int .i64 a) (y := .int .i64 b) (z := .int .i64 c) (u := .int .i64 d) (t := 25) T3.out (by simp)
          obtain ⟨y0, y1, y2, y3, y4⟩ := Has.c4 (g := w.heap.size + 1) (x := .int .i64 p) (y := .int .i64 q) (z := .int .i64 r) (u := .int .i64 s) (t := 25) T3.out (by simp)
          go_wp2_with fail
          with_reducible refine ((M3.out) _).mono ?_
          rintro e w3 ⟨rfl, hb⟩
          have T4 := Lib.hid (T3.out.step hb)
          clear hb T3 x0 x1 x2 x3 x4 y0 y1 y2 y3 y4
          obtain ⟨x0, x1, x2, x3, x4⟩ := Has.c4 (g := w.heap.size) (x := .int .i64 a) (y := .int .i64 b) (z := .int .i64 c) (u := .int .i64 d) (t := 25) T4.out (by simp)
          obtain ⟨y0, y1, y2, y3, y4⟩ := Has.c4 (g := w.heap.size + 1) (x := .int .i64 p) (y := .int .i64 q) (z := .int .i64 r) (u := .int .i64 s) (t := 25) T4.out (by simp)
          go_wp2_with fail
          with_reducible refine ((M1.out) _).mono ?_
          rintro e w4 ⟨rfl, hb⟩
          have T5 := Lib.hid (T4.out.step hb)
          clear hb T4 x0 x1 x2 x3 x4 y0 y1 y2 y3 y4
          obtain ⟨x0, x1, x2, x3, x4⟩ := Has.c4 (g := w.heap.size) (x := .int .i64 a) (y := .int .i64 b) (z := .int .i64 c) (u := .int .i64 d) (t := 25) T5.out (by simp)
          obtain ⟨y0, y1, y2, y3, y4⟩ := Has.c4 (g := w.heap.size + 1) (x := .int .i64 p) (y := .int .i64 q) (z := .int .i64 r) (u := .int .i64 s) (t := 25) T5.out (by simp)
          go_wp2
          go_ret
          refine ⟨?_, T5.out.1⟩
          first | rfl | (simp [*]; done)
      · skip
        rw [show icmp 6 m1 m2 m3 = (-1) from by unfold icmp fin; (repeat' split) <;> omega]
        go_enter Try.func29, Try.ntmps29
        go_wp2_with fail
        with_reducible refine ((V.out) _).mono ?_
        rintro e w0 ⟨rfl, hb⟩
        have T1 := Lib.hid (T0.out.step hb)
        clear hb T0 V
        obtain ⟨x0, x1, x2, x3, x4⟩ := Has.c4 (g := w.heap.size) (x := .int .i64 a) (y := .int .i64 b) (z := .int .i64 c) (u := .int .i64 d) (t := 25) T1.out (by simp)
        obtain ⟨y0, y1, y2, y3, y4⟩ := Has.c4 (g := w.heap.size + 1) (x := .int .i64 p) (y := .int .i64 q) (z := .int .i64 r) (u := .int .i64 s) (t := 25) T1.out (by simp)
        go_wp2_with fail
        with_reducible refine ((M1.out) _).mono ?_
        rintro e w1 ⟨rfl, hb⟩
        have T2 := Lib.hid (T1.out.step hb)
        clear hb T1 x0 x1 x2 x3 x4 y0 y1 y2 y3 y4
        obtain ⟨x0, x1, x2, x3, x4⟩ := Has.c4 (g := w.heap.size) (x := .int .i64 a) (y := .int .i64 b) (z := .int .i64 c) (u := .int .i64 d) (t := 25) T2.out (by simp)
        obtain ⟨y0, y1, y2, y3, y4⟩ := Has.c4 (g := w.heap.size + 1) (x := .int .i64 p) (y := .int .i64 q) (z := .int .i64 r) (u := .int .i64 s) (t := 25) T2.out (by simp)
        go_wp2_with fail
        with_reducible refine ((M2.out) _).mono ?_
        rintro e w2 ⟨rfl, hb⟩
        have T3 := Lib.hid (T2.out.step hb)
        clear hb T2 x0 x1 x2 x3 x4 y0 y1 y2 y3 y4
        obtain ⟨x0, x1, x2, x3, x4⟩ := Has.c4 (g := w.heap.size) (x := .int .i64 a) (y := .int .i64 b) (z := .int .i64 c) (u := .int .i64 d) (t := 25) T3.out (by simp)
        obtain ⟨y0, y1, y2, y3, y4⟩ := Has.c4 (g := w.heap.size + 1) (x := .int .i64 p) (y := .int .i64 q) (z := .int .i64 r) (u := .int .i64 s) (t := 25) T3.out (by simp)
        go_wp2_with fail
        with_reducible refine ((M3.out) _).mono ?_
        rintro e w3 ⟨rfl, hb⟩
        have T4 := Lib.hid (T3.out.step hb)
        clear hb T3 x0 x1 x2 x3 x4 y0 y1 y2 y3 y4
        obtain ⟨x0, x1, x2, x3, x4⟩ := Has.c4 (g := w.heap.size) (x := .int .i64 a) (y := .int .i64 b) (z := .int .i64 c) (u := .int .i64 d) (t := 25) T4.out (by simp)
        obtain ⟨y0, y1, y2, y3, y4⟩ := Has.c4 (g := w.heap.size + 1) (x := .int .i64 p) (y := .int .i64 q) (z := .int .i64 r) (u := .int .i64 s) (t := 25) T4.out (by simp)
        go_wp2
        go_ret
        refine ⟨?_, T4.out.1⟩
        first | rfl | (simp [*]; done)
set_option maxHeartbeats 1000000 in
theorem icompare7 (a b c d p q r s m1 m2 m3 : Int)
    (V : Hid (∀ w : World, Calls Try.prog 41 #[.agg #[.int .i64 a, .int .i64 b, .int .i64 c, .int .i64 d], .agg #[.int .i64 p, .int .i64 q, .int .i64 r, .int .i64 s]] w fun e w' => e = .returned (.bool true) ∧ Below w.heap.size w w'))
    (M1 : Hid (∀ w : World, Calls Try.prog 39 #[.agg #[.int .i64 c, .int .i64 d], .agg #[.int .i64 p, .int .i64 q]] w fun e w' => e = .returned (.int .i64 m1) ∧ Below w.heap.size w w'))
    (M2 : Hid (∀ w : World, Calls Try.prog 39 #[.agg #[.int .i64 r, .int .i64 s], .agg #[.int .i64 a, .int .i64 b]] w fun e w' => e = .returned (.int .i64 m2) ∧ Below w.heap.size w w'))
    (M3 : Hid (∀ w : World, Calls Try.prog 39 #[.agg #[.int .i64 a, .int .i64 b], .agg #[.int .i64 r, .int .i64 s]] w fun e w' => e = .returned (.int .i64 m3) ∧ Below w.heap.size w w'))
    (w : World) : Calls Try.prog 29 #[.int .i64 7, .agg #[.int .i64 a, .int .i64 b, .int .i64 c, .int .i64 d], .agg #[.int .i64 p, .int .i64 q, .int .i64 r, .int .i64 s]] w fun e w' => e = .returned (.int .i64 (icmp 7 m1 m2 m3)) ∧ Below w.heap.size w w' := by
  have T0 := Lib.hid (two0 w #[.int .i64 a, .int .i64 b, .int .i64 c, .int .i64 d] #[.int .i64 p, .int .i64 q, .int .i64 r, .int .i64 s] 25 25)
  by_cases h1 : m1 < 0
  · by_cases h2 : 0 ≤ m3
    · skip
      rw [show icmp 7 m1 m2 m3 = 1 from by unfold icmp fin; (repeat' split) <;> omega]
      go_enter Try.func29, Try.ntmps29
      go_wp2_with fail
      with_reducible refine ((V.out) _).mono ?_
      rintro e w0 ⟨rfl, hb⟩
      have T1 := Lib.hid (T0.out.step hb)
      clear hb T0 V
      obtain ⟨x0, x1, x2, x3, x4⟩ := Has.c4 (g := w.heap.size) (x := .int .i64 a) (y := .int .i64 b) (z := .int .i64 c) (u := .int .i64 d) (t := 25) T1.out (by simp)
      obtain ⟨y0, y1, y2, y3, y4⟩ := Has.c4 (g := w.heap.size + 1) (x := .int .i64 p) (y := .int .i64 q) (z := .int .i64 r) (u := .int .i64 s) (t := 25) T1.out (by simp)
      go_wp2_with fail
      with_reducible refine ((M1.out) _).mono ?_
      rintro e w1 ⟨rfl, hb⟩
      have T2 := Lib.hid (T1.out.step hb)
      clear hb T1 x0 x1 x2 x3 x4 y0 y1 y2 y3 y4
      obtain ⟨x0, x1, x2, x3, x4⟩ := Has.c4 (g := w.heap.size) (x := .int .i64 a) (y := .int .i64 b) (z := .int .i64 c) (u := .int .i64 d) (t := 25) T2.out (by simp)
      obtain ⟨y0, y1, y2, y3, y4⟩ := Has.c4 (g := w.heap.size + 1) (x := .int .i64 p) (y := .int .i64 q) (z := .int .i64 r) (u := .int .i64 s) (t := 25) T2.out (by simp)
      go_wp2_with fail
      with_reducible refine ((M3.out) _).mono ?_
      rintro e w2 ⟨rfl, hb⟩
      have T3 := Lib.hid (T2.out.step hb)
      clear hb T2 x0 x1 x2 x3 x4 y0 y1 y2 y3 y4
      obtain ⟨x0, x1, x2, x3, x4⟩ := Has.c4 (g := w.heap.size) (x := .int .i64 a) (y := .int .i64 b) (z := .int .i64 c) (u := .int .i64 d) (t := 25) T3.out (by simp)
      obtain ⟨y0, y1, y2, y3, y4⟩ := Has.c4 (g := w.heap.size + 1) (x := .int .i64 p) (y := .int .i64 q) (z := .int .i64 r) (u := .int .i64 s) (t := 25) T3.out (by simp)
      go_wp2
      go_ret
      refine ⟨?_, T3.out.1⟩
      first | rfl | (simp [*]; done)
    · skip
      rw [show icmp 7 m1 m2 m3 = 1 from by unfold icmp fin; (repeat' split) <;> omega]
      go_enter Try.func29, Try.ntmps29
      go_wp2_with fail
      with_reducible refine ((V.out) _).mono ?_
      rintro e w0 ⟨rfl, hb⟩
      have T1 := Lib.hid (T0.out.step hb)
      clear hb T0 V
      obtain ⟨x0, x1, x2, x3, x4⟩ := Has.c4 (g := w.heap.size) (x := .int .i64 a) (y := .int .i64 b) (z := .int .i64 c) (u := .int .i64 d) (t := 25) T1.out (by simp)
      obtain ⟨y0, y1, y2, y3, y4⟩ := Has.c4 (g := w.heap.size + 1) (x := .int .i64 p) (y := .int .i64 q) (z := .int .i64 r) (u := .int .i64 s) (t := 25) T1.out (by simp)
      go_wp2_with fail
      with_reducible refine ((M1.out) _).mono ?_
      rintro e w1 ⟨rfl, hb⟩
      have T2 := Lib.hid (T1.out.step hb)
      clear hb T1 x0 x1 x2 x3 x4 y0 y1 y2 y3 y4
      obtain ⟨x0, x1, x2, x3, x4⟩ := Has.c4 (g := w.heap.size) (x := .int .i64 a) (y := .int .i64 b) (z := .int .i64 c) (u := .int .i64 d) (t := 25) T2.out (by simp)
      obtain ⟨y0, y1, y2, y3, y4⟩ := Has.c4 (g := w.heap.size + 1) (x := .int .i64 p) (y := .int .i64 q) (z := .int .i64 r) (u := .int .i64 s) (t := 25) T2.out (by simp)
      go_wp2_with fail
      with_reducible refine ((M3.out) _).mono ?_
      rintro e w2 ⟨rfl, hb⟩
      have T3 := Lib.hid (T2.out.step hb)
      clear hb T2 x0 x1 x2 x3 x4 y0 y1 y2 y3 y4
      obtain ⟨x0, x1, x2, x3, x4⟩ := Has.c4 (g := w.heap.size) (x := .int .i64 a) (y := .int .i64 b) (z := .int .i64 c) (u := .int .i64 d) (t := 25) T3.out (by simp)
      obtain ⟨y0, y1, y2, y3, y4⟩ := Has.c4 (g := w.heap.size + 1) (x := .int .i64 p) (y := .int .i64 q) (z := .int .i64 r) (u := .int .i64 s) (t := 25) T3.out (by simp)
      go_wp2
      go_ret
      refine ⟨?_, T3.out.1⟩
      first | rfl | (simp [*]; done)
  · by_cases h2 : 0 ≤ m3
    · skip
      rw [show icmp 7 m1 m2 m3 = 0 from by unfold icmp fin; (repeat' split) <;> omega]
      go_enter Try.func29, Try.ntmps29
      go_wp2_with fail
      with_reducible refine ((V.out) _).mono ?_
      rintro e w0 ⟨rfl, hb⟩
      have T1 := Lib.hid (T0.out.step hb)
      clear hb T0 V
      obtain ⟨x0, x1, x2, x3, x4⟩ := Has.c4 (g := w.heap.size) (x := .int .i64 a) (y := .int .i64 b) (z := .int .i64 c) (u := .int .i64 d) (t := 25) T1.out (by simp)
      obtain ⟨y0, y1, y2, y3, y4⟩ := Has.c4 (g := w.heap.size + 1) (x := .int .i64 p) (y := .int .i64 q) (z := .int .i64 r) (u := .int .i64 s) (t := 25) T1.out (by simp)
      go_wp2_with fail
      with_reducible refine ((M1.out) _).mono ?_
      rintro e w1 ⟨rfl, hb⟩
      have T2 := Lib.hid (T1.out.step hb)
      clear hb T1 x0 x1 x2 x3 x4 y0 y1 y2 y3 y4
      obtain ⟨x0, x1, x2, x3, x4⟩ := Has.c4 (g := w.heap.size) (x := .int .i64 a) (y := .int .i64 b) (z := .int .i64 c) (u := .int .i64 d) (t := 25) T2.out (by simp)
      obtain ⟨y0, y1, y2, y3, y4⟩ := Has.c4 (g := w.heap.size + 1) (x := .int .i64 p) (y := .int .i64 q) (z := .int .i64 r) (u := .int .i64 s) (t := 25) T2.out (by simp)
      go_wp2_with fail
      with_reducible refine ((M3.out) _).mono ?_
      rintro e w2 ⟨rfl, hb⟩
      have T3 := Lib.hid (T2.out.step hb)
      clear hb T2 x0 x1 x2 x3 x4 y0 y1 y2 y3 y4
      obtain ⟨x0, x1, x2, x3, x4⟩ := Has.c4 (g := w.heap.size) (x := .int .i64 a) (y := .int .i64 b) (z := .int .i64 c) (u := .int .i64 d) (t := 25) T3.out (by simp)
      obtain ⟨y0, y1, y2, y3, y4⟩ := Has.c4 (g := w.heap.size + 1) (x := .int .i64 p) (y := .int .i64 q) (z := .int .i64 r) (u := .int .i64 s) (t := 25) T3.out (by simp)
      go_wp2
      go_ret
      refine ⟨?_, T3.out.1⟩
      first | rfl | (simp [*]; done)
    · skip
      rw [show icmp 7 m1 m2 m3 = (-1) from by unfold icmp fin; (repeat' split) <;> omega]
      go_enter Try.func29, Try.ntmps29
      go_wp2_with fail
      with_reducible refine ((V.out) _).mono ?_
      rintro e w0 ⟨rfl, hb⟩
      have T1 := Lib.hid (T0.out.step hb)
      clear hb T0 V
      obtain ⟨x0, x1, x2, x3, x4⟩ := Has.c4 (g := w.heap.size) (x := .int .i64 a) (y := .int .i64 b) (z := .int .i64 c) (u := .int .i64 d) (t := 25) T1.out (by simp)
      obtain ⟨y0, y1, y2, y3, y4⟩ := Has.c4 (g := w.heap.size + 1) (x := .int .i64 p) (y := .int .i64 q) (z := .int .i64 r) (u := .int .i64 s) (t := 25) T1.out (by simp)
      go_wp2_with fail
      with_reducible refine ((M1.out) _).mono ?_
      rintro e w1 ⟨rfl, hb⟩
      have T2 := Lib.hid (T1.out.step hb)
      clear hb T1 x0 x1 x2 x3 x4 y0 y1 y2 y3 y4
      obtain ⟨x0, x1, x2, x3, x4⟩ := Has.c4 (g := w.heap.size) (x := .int .i64 a) (y := .int .i64 b) (z := .int .i64 c) (u := .int .i64 d) (t := 25) T2.out (by simp)
      obtain ⟨y0, y1, y2, y3, y4⟩ := Has.c4 (g := w.heap.size + 1) (x := .int .i64 p) (y := .int .i64 q) (z := .int .i64 r) (u := .int .i64 s) (t := 25) T2.out (by simp)
      go_wp2_with fail
      with_reducible refine ((M3.out) _).mono ?_
      rintro e w2 ⟨rfl, hb⟩
      have T3 := Lib.hid (T2.out.step hb)
      clear hb T2 x0 x1 x2 x3 x4 y0 y1 y2 y3 y4
      obtain ⟨x0, x1, x2, x3, x4⟩ := Has.c4 (g := w.heap.size) (x := .int .i64 a) (y := .int .i64 b) (z := .int .i64 c) (u := .int .i64 d) (t := 25) T3.out (by simp)
      obtain ⟨y0, y1, y2, y3, y4⟩ := Has.c4 (g := w.heap.size + 1) (x := .int .i64 p) (y := .int .i64 q) (z := .int .i64 r) (u := .int .i64 s) (t := 25) T3.out (by simp)
      go_wp2
      go_ret
      refine ⟨?_, T3.out.1⟩
      first | rfl | (simp [*]; done)
set_option maxHeartbeats 1000000 in
theorem icompare10 (a b c d p q r s m1 m2 m3 : Int)
    (V : Hid (∀ w : World, Calls Try.prog 41 #[.agg #[.int .i64 a, .int .i64 b, .int .i64 c, .int .i64 d], .agg #[.int .i64 p, .int .i64 q, .int .i64 r, .int .i64 s]] w fun e w' => e = .returned (.bool true) ∧ Below w.heap.size w w'))
    (M1 : Hid (∀ w : World, Calls Try.prog 39 #[.agg #[.int .i64 c, .int .i64 d], .agg #[.int .i64 p, .int .i64 q]] w fun e w' => e = .returned (.int .i64 m1) ∧ Below w.heap.size w w'))
    (M2 : Hid (∀ w : World, Calls Try.prog 39 #[.agg #[.int .i64 r, .int .i64 s], .agg #[.int .i64 a, .int .i64 b]] w fun e w' => e = .returned (.int .i64 m2) ∧ Below w.heap.size w w'))
    (M3 : Hid (∀ w : World, Calls Try.prog 39 #[.agg #[.int .i64 a, .int .i64 b], .agg #[.int .i64 r, .int .i64 s]] w fun e w' => e = .returned (.int .i64 m3) ∧ Below w.heap.size w w'))
    (w : World) : Calls Try.prog 29 #[.int .i64 10, .agg #[.int .i64 a, .int .i64 b, .int .i64 c, .int .i64 d], .agg #[.int .i64 p, .int .i64 q, .int .i64 r, .int .i64 s]] w fun e w' => e = .returned (.int .i64 (icmp 10 m1 m2 m3)) ∧ Below w.heap.size w w' := by
  have T0 := Lib.hid (two0 w #[.int .i64 a, .int .i64 b, .int .i64 c, .int .i64 d] #[.int .i64 p, .int .i64 q, .int .i64 r, .int .i64 s] 25 25)
  by_cases h1 : 0 ≤ m3
  · by_cases h2 : m1 < 0
    · skip
      rw [show icmp 10 m1 m2 m3 = 1 from by unfold icmp fin; (repeat' split) <;> omega]
      go_enter Try.func29, Try.ntmps29
      go_wp2_with fail
      with_reducible refine ((V.out) _).mono ?_
      rintro e w0 ⟨rfl, hb⟩
      have T1 := Lib.hid (T0.out.step hb)
      clear hb T0 V
      obtain ⟨x0, x1, x2, x3, x4⟩ := Has.c4 (g := w.heap.size) (x := .int .i64 a) (y := .int .i64 b) (z := .int .i64 c) (u := .int .i64 d) (t := 25) T1.out (by simp)
      obtain ⟨y0, y1, y2, y3, y4⟩ := Has.c4 (g := w.heap.size + 1) (x := .int .i64 p) (y := .int .i64 q) (z := .int .i64 r) (u := .int .i64 s) (t := 25) T1.out (by simp)
      go_wp2_with fail
      with_reducible refine ((M1.out) _).mono ?_
      rintro e w1 ⟨rfl, hb⟩
      have T2 := Lib.hid (T1.out.step hb)
      clear hb T1 x0 x1 x2 x3 x4 y0 y1 y2 y3 y4
      obtain ⟨x0, x1, x2, x3, x4⟩ := Has.c4 (g := w.heap.size) (x := .int .i64 a) (y := .int .i64 b) (z := .int .i64 c) (u := .int .i64 d) (t := 25) T2.out (by simp)
      obtain ⟨y0, y1, y2, y3, y4⟩ := Has.c4 (g := w.heap.size + 1) (x := .int .i64 p) (y := .int .i64 q) (z := .int .i64 r) (u := .int .i64 s) (t := 25) T2.out (by simp)
      go_wp2_with fail
      with_reducible refine ((M3.out) _).mono ?_
      rintro e w2 ⟨rfl, hb⟩
      have T3 := Lib.hid (T2.out.step hb)
      clear hb T2 x0 x1 x2 x3 x4 y0 y1 y2 y3 y4
      obtain ⟨x0, x1, x2, x3, x4⟩ := Has.c4 (g := w.heap.size) (x := .int .i64 a) (y := .int .i64 b) (z := .int .i64 c) (u := .int .i64 d) (t := 25) T3.out (by simp)
      obtain ⟨y0, y1, y2, y3, y4⟩ := Has.c4 (g := w.heap.size + 1) (x := .int .i64 p) (y := .int .i64 q) (z := .int .i64 r) (u := .int .i64 s) (t := 25) T3.out (by simp)
      go_wp2
      go_ret
      refine ⟨?_, T3.out.1⟩
      first | rfl | (simp [*]; done)
    · skip
      rw [show icmp 10 m1 m2 m3 = 1 from by unfold icmp fin; (repeat' split) <;> omega]
      go_enter Try.func29, Try.ntmps29
      go_wp2_with fail
      with_reducible refine ((V.out) _).mono ?_
      rintro e w0 ⟨rfl, hb⟩
      have T1 := Lib.hid (T0.out.step hb)
      clear hb T0 V
      obtain ⟨x0, x1, x2, x3, x4⟩ := Has.c4 (g := w.heap.size) (x := .int .i64 a) (y := .int .i64 b) (z := .int .i64 c) (u := .int .i64 d) (t := 25) T1.out (by simp)
      obtain ⟨y0, y1, y2, y3, y4⟩ := Has.c4 (g := w.heap.size + 1) (x := .int .i64 p) (y := .int .i64 q) (z := .int .i64 r) (u := .int .i64 s) (t := 25) T1.out (by simp)
      go_wp2_with fail
      with_reducible refine ((M1.out) _).mono ?_
      rintro e w1 ⟨rfl, hb⟩
      have T2 := Lib.hid (T1.out.step hb)
      clear hb T1 x0 x1 x2 x3 x4 y0 y1 y2 y3 y4
      obtain ⟨x0, x1, x2, x3, x4⟩ := Has.c4 (g := w.heap.size) (x := .int .i64 a) (y := .int .i64 b) (z := .int .i64 c) (u := .int .i64 d) (t := 25) T2.out (by simp)
      obtain ⟨y0, y1, y2, y3, y4⟩ := Has.c4 (g := w.heap.size + 1) (x := .int .i64 p) (y := .int .i64 q) (z := .int .i64 r) (u := .int .i64 s) (t := 25) T2.out (by simp)
      go_wp2_with fail
      with_reducible refine ((M3.out) _).mono ?_
      rintro e w2 ⟨rfl, hb⟩
      have T3 := Lib.hid (T2.out.step hb)
      clear hb T2 x0 x1 x2 x3 x4 y0 y1 y2 y3 y4
      obtain ⟨x0, x1, x2, x3, x4⟩ := Has.c4 (g := w.heap.size) (x := .int .i64 a) (y := .int .i64 b) (z := .int .i64 c) (u := .int .i64 d) (t := 25) T3.out (by simp)
      obtain ⟨y0, y1, y2, y3, y4⟩ := Has.c4 (g := w.heap.size + 1) (x := .int .i64 p) (y := .int .i64 q) (z := .int .i64 r) (u := .int .i64 s) (t := 25) T3.out (by simp)
      go_wp2
      go_ret
      refine ⟨?_, T3.out.1⟩
      first | rfl | (simp [*]; done)
  · by_cases h2 : m1 < 0
    · skip
      rw [show icmp 10 m1 m2 m3 = 0 from by unfold icmp fin; (repeat' split) <;> omega]
      go_enter Try.func29, Try.ntmps29
      go_wp2_with fail
      with_reducible refine ((V.out) _).mono ?_
      rintro e w0 ⟨rfl, hb⟩
      have T1 := Lib.hid (T0.out.step hb)
      clear hb T0 V
      obtain ⟨x0, x1, x2, x3, x4⟩ := Has.c4 (g := w.heap.size) (x := .int .i64 a) (y := .int .i64 b) (z := .int .i64 c) (u := .int .i64 d) (t := 25) T1.out (by simp)
      obtain ⟨y0, y1, y2, y3, y4⟩ := Has.c4 (g := w.heap.size + 1) (x := .int .i64 p) (y := .int .i64 q) (z := .int .i64 r) (u := .int .i64 s) (t := 25) T1.out (by simp)
      go_wp2_with fail
      with_reducible refine ((M1.out) _).mono ?_
      rintro e w1 ⟨rfl, hb⟩
      have T2 := Lib.hid (T1.out.step hb)
      clear hb T1 x0 x1 x2 x3 x4 y0 y1 y2 y3 y4
      obtain ⟨x0, x1, x2, x3, x4⟩ := Has.c4 (g := w.heap.size) (x := .int .i64 a) (y := .int .i64 b) (z := .int .i64 c) (u := .int .i64 d) (t := 25) T2.out (by simp)
      obtain ⟨y0, y1, y2, y3, y4⟩ := Has.c4 (g := w.heap.size + 1) (x := .int .i64 p) (y := .int .i64 q) (z := .int .i64 r) (u := .int .i64 s) (t := 25) T2.out (by simp)
      go_wp2_with fail
      with_reducible refine ((M3.out) _).mono ?_
      rintro e w2 ⟨rfl, hb⟩
      have T3 := Lib.hid (T2.out.step hb)
      clear hb T2 x0 x1 x2 x3 x4 y0 y1 y2 y3 y4
      obtain ⟨x0, x1, x2, x3, x4⟩ := Has.c4 (g := w.heap.size) (x := .int .i64 a) (y := .int .i64 b) (z := .int .i64 c) (u := .int .i64 d) (t := 25) T3.out (by simp)
      obtain ⟨y0, y1, y2, y3, y4⟩ := Has.c4 (g := w.heap.size + 1) (x := .int .i64 p) (y := .int .i64 q) (z := .int .i64 r) (u := .int .i64 s) (t := 25) T3.out (by simp)
      go_wp2
      go_ret
      refine ⟨?_, T3.out.1⟩
      first | rfl | (simp [*]; done)
    · skip
      rw [show icmp 10 m1 m2 m3 = (-1) from by unfold icmp fin; (repeat' split) <;> omega]
      go_enter Try.func29, Try.ntmps29
      go_wp2_with fail
      with_reducible refine ((V.out) _).mono ?_
      rintro e w0 ⟨rfl, hb⟩
      have T1 := Lib.hid (T0.out.step hb)
      clear hb T0 V
      obtain ⟨x0, x1, x2, x3, x4⟩ := Has.c4 (g := w.heap.size) (x := .int .i64 a) (y := .int .i64 b) (z := .int .i64 c) (u := .int .i64 d) (t := 25) T1.out (by simp)
      obtain ⟨y0, y1, y2, y3, y4⟩ := Has.c4 (g := w.heap.size + 1) (x := .int .i64 p) (y := .int .i64 q) (z := .int .i64 r) (u := .int .i64 s) (t := 25) T1.out (by simp)
      go_wp2_with fail
      with_reducible refine ((M1.out) _).mono ?_
      rintro e w1 ⟨rfl, hb⟩
      have T2 := Lib.hid (T1.out.step hb)
      clear hb T1 x0 x1 x2 x3 x4 y0 y1 y2 y3 y4
      obtain ⟨x0, x1, x2, x3, x4⟩ := Has.c4 (g := w.heap.size) (x := .int .i64 a) (y := .int .i64 b) (z := .int .i64 c) (u := .int .i64 d) (t := 25) T2.out (by simp)
      obtain ⟨y0, y1, y2, y3, y4⟩ := Has.c4 (g := w.heap.size + 1) (x := .int .i64 p) (y := .int .i64 q) (z := .int .i64 r) (u := .int .i64 s) (t := 25) T2.out (by simp)
      go_wp2_with fail
      with_reducible refine ((M3.out) _).mono ?_
      rintro e w2 ⟨rfl, hb⟩
      have T3 := Lib.hid (T2.out.step hb)
      clear hb T2 x0 x1 x2 x3 x4 y0 y1 y2 y3 y4
      obtain ⟨x0, x1, x2, x3, x4⟩ := Has.c4 (g := w.heap.size) (x := .int .i64 a) (y := .int .i64 b) (z := .int .i64 c) (u := .int .i64 d) (t := 25) T3.out (by simp)
      obtain ⟨y0, y1, y2, y3, y4⟩ := Has.c4 (g := w.heap.size + 1) (x := .int .i64 p) (y := .int .i64 q) (z := .int .i64 r) (u := .int .i64 s) (t := 25) T3.out (by simp)
      go_wp2
      go_ret
      refine ⟨?_, T3.out.1⟩
      first | rfl | (simp [*]; done)
set_option maxHeartbeats 1000000 in
theorem icompare8 (a b c d p q r s m1 m2 m3 : Int)
    (V : Hid (∀ w : World, Calls Try.prog 41 #[.agg #[.int .i64 a, .int .i64 b, .int .i64 c, .int .i64 d], .agg #[.int .i64 p, .int .i64 q, .int .i64 r, .int .i64 s]] w fun e w' => e = .returned (.bool true) ∧ Below w.heap.size w w'))
    (M1 : Hid (∀ w : World, Calls Try.prog 39 #[.agg #[.int .i64 c, .int .i64 d], .agg #[.int .i64 p, .int .i64 q]] w fun e w' => e = .returned (.int .i64 m1) ∧ Below w.heap.size w w'))
    (M2 : Hid (∀ w : World, Calls Try.prog 39 #[.agg #[.int .i64 r, .int .i64 s], .agg #[.int .i64 a, .int .i64 b]] w fun e w' => e = .returned (.int .i64 m2) ∧ Below w.heap.size w w'))
    (M3 : Hid (∀ w : World, Calls Try.prog 39 #[.agg #[.int .i64 a, .int .i64 b], .agg #[.int .i64 r, .int .i64 s]] w fun e w' => e = .returned (.int .i64 m3) ∧ Below w.heap.size w w'))
    (w : World) : Calls Try.prog 29 #[.int .i64 8, .agg #[.int .i64 a, .int .i64 b, .int .i64 c, .int .i64 d], .agg #[.int .i64 p, .int .i64 q, .int .i64 r, .int .i64 s]] w fun e w' => e = .returned (.int .i64 (icmp 8 m1 m2 m3)) ∧ Below w.heap.size w w' := by
  have T0 := Lib.hid (two0 w #[.int .i64 a, .int .i64 b, .int .i64 c, .int .i64 d] #[.int .i64 p, .int .i64 q, .int .i64 r, .int .i64 s] 25 25)
  by_cases h1 : m1 ≤ 0
  · by_cases h2 : 0 < m3
    · skip
      rw [show icmp 8 m1 m2 m3 = 1 from by unfold icmp fin; (repeat' split) <;> omega]
      go_enter Try.func29, Try.ntmps29
      go_wp2_with fail
      with_reducible refine ((V.out) _).mono ?_
      rintro e w0 ⟨rfl, hb⟩
      have T1 := Lib.hid (T0.out.step hb)
      clear hb T0 V
      obtain ⟨x0, x1, x2, x3, x4⟩ := Has.c4 (g := w.heap.size) (x := .int .i64 a) (y := .int .i64 b) (z := .int .i64 c) (u := .int .i64 d) (t := 25) T1.out (by simp)
      obtain ⟨y0, y1, y2, y3, y4⟩ := Has.c4 (g := w.heap.size + 1) (x := .int .i64 p) (y := .int .i64 q) (z := .int .i64 r) (u := .int .i64 s) (t := 25) T1.out (by simp)
      go_wp2_with fail
      with_reducible refine ((M1.out) _).mono ?_
      rintro e w1 ⟨rfl, hb⟩
      have T2 := Lib.hid (T1.out.step hb)
      clear hb T1 x0 x1 x2 x3 x4 y0 y1 y2 y3 y4
      obtain ⟨x0, x1, x2, x3, x4⟩ := Has.c4 (g := w.heap.size) (x := .int .i64 a) (y := .int .i64 b) (z := .int .i64 c) (u := .int .i64 d) (t := 25) T2.out (by simp)
      obtain ⟨y0, y1, y2, y3, y4⟩ := Has.c4 (g := w.heap.size + 1) (x := .int .i64 p) (y := .int .i64 q) (z := .int .i64 r) (u := .int .i64 s) (t := 25) T2.out (by simp)
      go_wp2_with fail
      with_reducible refine ((M3.out) _).mono ?_
      rintro e w2 ⟨rfl, hb⟩
      have T3 := Lib.hid (T2.out.step hb)
      clear hb T2 x0 x1 x2 x3 x4 y0 y1 y2 y3 y4
      obtain ⟨x0, x1, x2, x3, x4⟩ := Has.c4 (g := w.heap.size) (x := .int .i64 a) (y := .int .i64 b) (z := .int .i64 c) (u := .int .i64 d) (t := 25) T3.out (by simp)
      obtain ⟨y0, y1, y2, y3, y4⟩ := Has.c4 (g := w.heap.size + 1) (x := .int .i64 p) (y := .int .i64 q) (z := .int .i64 r) (u := .int .i64 s) (t := 25) T3.out (by simp)
      go_wp2
      go_ret
      refine ⟨?_, T3.out.1⟩
      first | rfl | (simp [*]; done)
    · skip
      rw [show icmp 8 m1 m2 m3 = 1 from by unfold icmp fin; (repeat' split) <;> omega]
      go_enter Try.func29, Try.ntmps29
      go_wp2_with fail
      with_reducible refine ((V.out) _).mono ?_
      rintro e w0 ⟨rfl, hb⟩
      have T1 := Lib.hid (T0.out.step hb)
      clear hb T0 V
      obtain ⟨x0, x1, x2, x3, x4⟩ := Has.c4 (g := w.heap.size) (x := .int .i64 a) (y := .int .i64 b) (z := .int .i64 c) (u := .int .i64 d) (t := 25) T1.out (by simp)
      obtain ⟨y0, y1, y2, y3, y4⟩ := Has.c4 (g := w.heap.size + 1) (x := .int .i64 p) (y := .int .i64 q) (z := .int .i64 r) (u := .int .i64 s) (t := 25) T1.out (by simp)
      go_wp2_with fail
      with_reducible refine ((M1.out) _).mono ?_
      rintro e w1 ⟨rfl, hb⟩
      have T2 := Lib.hid (T1.out.step hb)
      clear hb T1 x0 x1 x2 x3 x4 y0 y1 y2 y3 y4
      obtain ⟨x0, x1, x2, x3, x4⟩ := Has.c4 (g := w.heap.size) (x := .int .i64 a) (y := .int .i64 b) (z := .int .i64 c) (u := .int .i64 d) (t := 25) T2.out (by simp)
      obtain ⟨y0, y1, y2, y3, y4⟩ := Has.c4 (g := w.heap.size + 1) (x := .int .i64 p) (y := .int .i64 q) (z := .int .i64 r) (u := .int .i64 s) (t := 25) T2.out (by simp)
      go_wp2_with fail
      with_reducible refine ((M3.out) _).mono ?_
      rintro e w2 ⟨rfl, hb⟩
      have T3 := Lib.hid (T2.out.step hb)
      clear hb T2 x0 x1 x2 x3 x4 y0 y1 y2 y3 y4
      obtain ⟨x0, x1, x2, x3, x4⟩ := Has.c4 (g := w.heap.size) (x := .int .i64 a) (y := .int .i64 b) (z := .int .i64 c) (u := .int .i64 d) (t := 25) T3.out (by simp)
      obtain ⟨y0, y1, y2, y3, y4⟩ := Has.c4 (g := w.heap.size + 1) (x := .int .i64 p) (y := .int .i64 q) (z := .int .i64 r) (u := .int .i64 s) (t := 25) T3.out (by simp)
      go_wp2
      go_ret
      refine ⟨?_, T3.out.1⟩
      first | rfl | (simp [*]; done)
  · by_cases h2 : 0 < m3
    · skip
      rw [show icmp 8 m1 m2 m3 = 0 from by unfold icmp fin; (repeat' split) <;> omega]
      go_enter Try.func29, Try.ntmps29
      go_wp2_with fail
      with_reducible refine ((V.out) _).mono ?_
      rintro e w0 ⟨rfl, hb⟩
      have T1 := Lib.hid (T0.out.step hb)
      clear hb T0 V
      obtain ⟨x0, x1, x2, x3, x4⟩ := Has.c4 (g := w.heap.size) (x := .int .i64 a) (y := .int .i64 b) (z := .int .i64 c) (u := .int .i64 d) (t := 25) T1.out (by simp)
      obtain ⟨y0, y1, y2, y3, y4⟩ := Has.c4 (g := w.heap.size + 1) (x := .int .i64 p) (y := .int .i64 q) (z := .int .i64 r) (u := .int .i64 s) (t := 25) T1.out (by simp)
      go_wp2_with fail
      with_reducible refine ((M1.out) _).mono ?_
      rintro e w1 ⟨rfl, hb⟩
      have T2 := Lib.hid (T1.out.step hb)
      clear hb T1 x0 x1 x2 x3 x4 y0 y1 y2 y3 y4
      obtain ⟨x0, x1, x2, x3, x4⟩ := Has.c4 (g := w.heap.size) (x := .int .i64 a) (y := .int .i64 b) (z := .int .i64 c) (u := .int .i64 d) (t := 25) T2.out (by simp)
      obtain ⟨y0, y1, y2, y3, y4⟩ := Has.c4 (g := w.heap.size + 1) (x := .int .i64 p) (y := .int .i64 q) (z := .int .i64 r) (u := .int .i64 s) (t := 25) T2.out (by simp)
      go_wp2_with fail
      with_reducible refine ((M3.out) _).mono ?_
      rintro e w2 ⟨rfl, hb⟩
      have T3 := Lib.hid (T2.out.step hb)
      clear hb T2 x0 x1 x2 x3 x4 y0 y1 y2 y3 y4
      obtain ⟨x0, x1, x2, x3, x4⟩ := Has.c4 (g := w.heap.size) (x := .int .i64 a) (y := .int .i64 b) (z := .int .i64 c) (u := .int .i64 d) (t := 25) T3.out (by simp)
      obtain ⟨y0, y1, y2, y3, y4⟩ := Has.c4 (g := w.heap.size + 1) (x := .int .i64 p) (y := .int .i64 q) (z := .int .i64 r) (u := .int .i64 s) (t := 25) T3.out (by simp)
      go_wp2
      go_ret
      refine ⟨?_, T3.out.1⟩
      first | rfl | (simp [*]; done)
    · skip
      rw [show icmp 8 m1 m2 m3 = (-1) from by unfold icmp fin; (repeat' split) <;> omega]
      go_enter Try.func29, Try.ntmps29
      go_wp2_with fail
      with_reducible refine ((V.out) _).mono ?_
      rintro e w0 ⟨rfl, hb⟩
      have T1 := Lib.hid (T0.out.step hb)
      clear hb T0 V
      obtain ⟨x0, x1, x2, x3, x4⟩ := Has.c4 (g := w.heap.size) (x := .int .i64 a) (y := .int .i64 b) (z := .int .i64 c) (u := .int .i64 d) (t := 25) T1.out (by simp)
      obtain ⟨y0, y1, y2, y3, y4⟩ := Has.c4 (g := w.heap.size + 1) (x := .int .i64 p) (y := .int .i64 q) (z := .int .i64 r) (u := .int .i64 s) (t := 25) T1.out (by simp)
      go_wp2_with fail
      with_reducible refine ((M1.out) _).mono ?_
      rintro e w1 ⟨rfl, hb⟩
      have T2 := Lib.hid (T1.out.step hb)
      clear hb T1 x0 x1 x2 x3 x4 y0 y1 y2 y3 y4
      obtain ⟨x0, x1, x2, x3, x4⟩ := Has.c4 (g := w.heap.size) (x := .int .i64 a) (y := .int .i64 b) (z := .int .i64 c) (u := .int .i64 d) (t := 25) T2.out (by simp)
      obtain ⟨y0, y1, y2, y3, y4⟩ := Has.c4 (g := w.heap.size + 1) (x := .int .i64 p) (y := .int .i64 q) (z := .int .i64 r) (u := .int .i64 s) (t := 25) T2.out (by simp)
      go_wp2_with fail
      with_reducible refine ((M3.out) _).mono ?_
      rintro e w2 ⟨rfl, hb⟩
      have T3 := Lib.hid (T2.out.step hb)
      clear hb T2 x0 x1 x2 x3 x4 y0 y1 y2 y3 y4
      obtain ⟨x0, x1, x2, x3, x4⟩ := Has.c4 (g := w.heap.size) (x := .int .i64 a) (y := .int .i64 b) (z := .int .i64 c) (u := .int .i64 d) (t := 25) T3.out (by simp)
      obtain ⟨y0, y1, y2, y3, y4⟩ := Has.c4 (g := w.heap.size + 1) (x := .int .i64 p) (y := .int .i64 q) (z := .int .i64 r) (u := .int .i64 s) (t := 25) T3.out (by simp)
      go_wp2
      go_ret
      refine ⟨?_, T3.out.1⟩
      first | rfl | (simp [*]; done)
set_option maxHeartbeats 1000000 in
theorem icompare9 (a b c d p q r s m1 m2 m3 : Int)
    (V : Hid (∀ w : World, Calls Try.prog 41 #[.agg #[.int .i64 a, .int .i64 b, .int .i64 c, .int .i64 d], .agg #[.int .i64 p, .int .i64 q, .int .i64 r, .int .i64 s]] w fun e w' => e = .returned (.bool true) ∧ Below w.heap.size w w'))
    (M1 : Hid (∀ w : World, Calls Try.prog 39 #[.agg #[.int .i64 c, .int .i64 d], .agg #[.int .i64 p, .int .i64 q]] w fun e w' => e = .returned (.int .i64 m1) ∧ Below w.heap.size w w'))
    (M2 : Hid (∀ w : World, Calls Try.prog 39 #[.agg #[.int .i64 r, .int .i64 s], .agg #[.int .i64 a, .int .i64 b]] w fun e w' => e = .returned (.int .i64 m2) ∧ Below w.heap.size w w'))
    (M3 : Hid (∀ w : World, Calls Try.prog 39 #[.agg #[.int .i64 a, .int .i64 b], .agg #[.int .i64 r, .int .i64 s]] w fun e w' => e = .returned (.int .i64 m3) ∧ Below w.heap.size w w'))
    (w : World) : Calls Try.prog 29 #[.int .i64 9, .agg #[.int .i64 a, .int .i64 b, .int .i64 c, .int .i64 d], .agg #[.int .i64 p, .int .i64 q, .int .i64 r, .int .i64 s]] w fun e w' => e = .returned (.int .i64 (icmp 9 m1 m2 m3)) ∧ Below w.heap.size w w' := by
  have T0 := Lib.hid (two0 w #[.int .i64 a, .int .i64 b, .int .i64 c, .int .i64 d] #[.int .i64 p, .int .i64 q, .int .i64 r, .int .i64 s] 25 25)
  by_cases h1 : 0 < m3
  · by_cases h2 : m1 ≤ 0
    · skip
      rw [show icmp 9 m1 m2 m3 = 1 from by unfold icmp fin; (repeat' split) <;> omega]
      go_enter Try.func29, Try.ntmps29
      go_wp2_with fail
      with_reducible refine ((V.out) _).mono ?_
      rintro e w0 ⟨rfl, hb⟩
      have T1 := Lib.hid (T0.out.step hb)
      clear hb T0 V
      obtain ⟨x0, x1, x2, x3, x4⟩ := Has.c4 (g := w.heap.size) (x := .int .i64 a) (y := .int .i64 b) (z := .int .i64 c) (u := .int .i64 d) (t := 25) T1.out (by simp)
      obtain ⟨y0, y1, y2, y3, y4⟩ := Has.c4 (g := w.heap.size + 1) (x := .int .i64 p) (y := .int .i64 q) (z := .int .i64 r) (u := .int .i64 s) (t := 25) T1.out (by simp)
      go_wp2_with fail
      with_reducible refine ((M1.out) _).mono ?_
      rintro e w1 ⟨rfl, hb⟩
      have T2 := Lib.hid (T1.out.step hb)
      clear hb T1 x0 x1 x2 x3 x4 y0 y1 y2 y3 y4
      obtain ⟨x0, x1, x2, x3, x4⟩ := Has.c4 (g := w.heap.size) (x := .int .i64 a) (y := .int .i64 b) (z := .int .i64 c) (u := .int .i64 d) (t := 25) T2.out (by simp)
      obtain ⟨y0, y1, y2, y3, y4⟩ := Has.c4 (g := w.heap.size + 1) (x := .int .i64 p) (y := .int .i64 q) (z := .int .i64 r) (u := .int .i64 s) (t := 25) T2.out (by simp)
      go_wp2_with fail
      with_reducible refine ((M3.out) _).mono ?_
      rintro e w2 ⟨rfl, hb⟩
      have T3 := Lib.hid (T2.out.step hb)
      clear hb T2 x0 x1 x2 x3 x4 y0 y1 y2 y3 y4
      obtain ⟨x0, x1, x2, x3, x4⟩ := Has.c4 (g := w.heap.size) (x := .int .i64 a) (y := .int .i64 b) (z := .int .i64 c) (u := .int .i64 d) (t := 25) T3.out (by simp)
      obtain ⟨y0, y1, y2, y3, y4⟩ := Has.c4 (g := w.heap.size + 1) (x := .int .i64 p) (y := .int .i64 q) (z := .int .i64 r) (u := .int .i64 s) (t := 25) T3.out (by simp)
      go_wp2
      go_ret
      refine ⟨?_, T3.out.1⟩
      first | rfl | (simp [*]; done)
    · skip
      rw [show icmp 9 m1 m2 m3 = 1 from by unfold icmp fin; (repeat' split) <;> omega]
      go_enter Try.func29, Try.ntmps29
      go_wp2_with fail
      with_reducible refine ((V.out) _).mono ?_
      rintro e w0 ⟨rfl, hb⟩
      have T1 := Lib.hid (T0.out.step hb)
      clear hb T0 V
      obtain ⟨x0, x1, x2, x3, x4⟩ := Has.c4 (g := w.heap.size) (x := .int .i64 a) (y := .int .i64 b) (z := .int .i64 c) (u := .int .i64 d) (t := 25) T1.out (by simp)
      obtain ⟨y0, y1, y2, y3, y4⟩ := Has.c4 (g := w.heap.size + 1) (x := .int .i64 p) (y := .int .i64 q) (z := .int .i64 r) (u := .int .i64 s) (t := 25) T1.out (by simp)
      go_wp2_with fail
      with_reducible refine ((M1.out) _).mono ?_
      rintro e w1 ⟨rfl, hb⟩
      have T2 := Lib.hid (T1.out.step hb)
      clear hb T1 x0 x1 x2 x3 x4 y0 y1 y2 y3 y4
      obtain ⟨x0, x1, x2, x3, x4⟩ := Has.c4 (g := w.heap.size) (x := .int .i64 a) (y := .int .i64 b) (z := .int .i64 c) (u := .int .i64 d) (t := 25) T2.out (by simp)
      obtain ⟨y0, y1, y2, y3, y4⟩ := Has.c4 (g := w.heap.size + 1) (x := .int .i64 p) (y := .int .i64 q) (z := .int .i64 r) (u := .int .i64 s) (t := 25) T2.out (by simp)
      go_wp2_with fail
      with_reducible refine ((M3.out) _).mono ?_
      rintro e w2 ⟨rfl, hb⟩
      have T3 := Lib.hid (T2.out.step hb)
      clear hb T2 x0 x1 x2 x3 x4 y0 y1 y2 y3 y4
      obtain ⟨x0, x1, x2, x3, x4⟩ := Has.c4 (g := w.heap.size) (x := .int .i64 a) (y := .int .i64 b) (z := .int .i64 c) (u := .int .i64 d) (t := 25) T3.out (by simp)
      obtain ⟨y0, y1, y2, y3, y4⟩ := Has.c4 (g := w.heap.size + 1) (x := .int .i64 p) (y := .int .i64 q) (z := .int .i64 r) (u := .int .i64 s) (t := 25) T3.out (by simp)
      go_wp2
      go_ret
      refine ⟨?_, T3.out.1⟩
      first | rfl | (simp [*]; done)
  · by_cases h2 : m1 ≤ 0
    · skip
      rw [show icmp 9 m1 m2 m3 = 0 from by unfold icmp fin; (repeat' split) <;> omega]
      go_enter Try.func29, Try.ntmps29
      go_wp2_with fail
      with_reducible refine ((V.out) _).mono ?_
      rintro e w0 ⟨rfl, hb⟩
      have T1 := Lib.hid (T0.out.step hb)
      clear hb T0 V
      obtain ⟨x0, x1, x2, x3, x4⟩ := Has.c4 (g := w.heap.size) (x := .int .i64 a) (y := .int .i64 b) (z := .int .i64 c) (u := .int .i64 d) (t := 25) T1.out (by simp)
      obtain ⟨y0, y1, y2, y3, y4⟩ := Has.c4 (g := w.heap.size + 1) (x := .int .i64 p) (y := .int .i64 q) (z := .int .i64 r) (u := .int .i64 s) (t := 25) T1.out (by simp)
      go_wp2_with fail
      with_reducible refine ((M1.out) _).mono ?_
      rintro e w1 ⟨rfl, hb⟩
      have T2 := Lib.hid (T1.out.step hb)
      clear hb T1 x0 x1 x2 x3 x4 y0 y1 y2 y3 y4
      obtain ⟨x0, x1, x2, x3, x4⟩ := Has.c4 (g := w.heap.size) (x := .int .i64 a) (y := .int .i64 b) (z := .int .i64 c) (u := .int .i64 d) (t := 25) T2.out (by simp)
      obtain ⟨y0, y1, y2, y3, y4⟩ := Has.c4 (g := w.heap.size + 1) (x := .int .i64 p) (y := .int .i64 q) (z := .int .i64 r) (u := .int .i64 s) (t := 25) T2.out (by simp)
      go_wp2_with fail
      with_reducible refine ((M3.out) _).mono ?_
      rintro e w2 ⟨rfl, hb⟩
      have T3 := Lib.hid (T2.out.step hb)
      clear hb T2 x0 x1 x2 x3 x4 y0 y1 y2 y3 y4
      obtain ⟨x0, x1, x2, x3, x4⟩ := Has.c4 (g := w.heap.size) (x := .int .i64 a) (y := .int .i64 b) (z := .int .i64 c) (u := .int .i64 d) (t := 25) T3.out (by simp)
      obtain ⟨y0, y1, y2, y3, y4⟩ := Has.c4 (g := w.heap.size + 1) (x := .int .i64 p) (y := .int .i64 q) (z := .int .i64 r) (u := .int .i64 s) (t := 25) T3.out (by simp)
      go_wp2
      go_ret
      refine ⟨?_, T3.out.1⟩
      first | rfl | (simp [*]; done)
    · skip
      rw [show icmp 9 m1 m2 m3 = (-1) from by unfold icmp fin; (repeat' split) <;> omega]
      go_enter Try.func29, Try.ntmps29
      go_wp2_with fail
      with_reducible refine ((V.out) _).mono ?_
      rintro e w0 ⟨rfl, hb⟩
      have T1 := Lib.hid (T0.out.step hb)
      clear hb T0 V
      obtain ⟨x0, x1, x2, x3, x4⟩ := Has.c4 (g := w.heap.size) (x := .int .i64 a) (y := .int .i64 b) (z := .int .i64 c) (u := .int .i64 d) (t := 25) T1.out (by simp)
      obtain ⟨y0, y1, y2, y3, y4⟩ := Has.c4 (g := w.heap.size + 1) (x := .int .i64 p) (y := .int .i64 q) (z := .int .i64 r) (u := .int .i64 s) (t := 25) T1.out (by simp)
      go_wp2_with fail
      with_reducible refine ((M1.out) _).mono ?_
      rintro e w1 ⟨rfl, hb⟩
      have T2 := Lib.hid (T1.out.step hb)
      clear hb T1 x0 x1 x2 x3 x4 y0 y1 y2 y3 y4
      obtain ⟨x0, x1, x2, x3, x4⟩ := Has.c4 (g := w.heap.size) (x := .int .i64 a) (y := .int .i64 b) (z := .int .i64 c) (u := .int .i64 d) (t := 25) T2.out (by simp)
      obtain ⟨y0, y1, y2, y3, y4⟩ := Has.c4 (g := w.heap.size + 1) (x := .int .i64 p) (y := .int .i64 q) (z := .int .i64 r) (u := .int .i64 s) (t := 25) T2.out (by simp)
      go_wp2_with fail
      with_reducible refine ((M3.out) _).mono ?_
      rintro e w2 ⟨rfl, hb⟩
      have T3 := Lib.hid (T2.out.step hb)
      clear hb T2 x0 x1 x2 x3 x4 y0 y1 y2 y3 y4
      obtain ⟨x0, x1, x2, x3, x4⟩ := Has.c4 (g := w.heap.size) (x := .int .i64 a) (y := .int .i64 b) (z := .int .i64 c) (u := .int .i64 d) (t := 25) T3.out (by simp)
      obtain ⟨y0, y1, y2, y3, y4⟩ := Has.c4 (g := w.heap.size + 1) (x := .int .i64 p) (y := .int .i64 q) (z := .int .i64 r) (u := .int .i64 s) (t := 25) T3.out (by simp)
      go_wp2
      go_ret
      refine ⟨?_, T3.out.1⟩
      first | rfl | (simp [*]; done)
set_option maxHeartbeats 1000000 in
theorem icompareOther (op : Int) (h5 : ¬ op = 5) (h6 : ¬ op = 6) (h7 : ¬ op = 7) (h8 : ¬ op = 8) (h9 : ¬ op = 9) (h10 : ¬ op = 10) (a b c d p q r s m1 m2 m3 : Int)
    (V : Hid (∀ w : World, Calls Try.prog 41 #[.agg #[.int .i64 a, .int .i64 b, .int .i64 c, .int .i64 d], .agg #[.int .i64 p, .int .i64 q, .int .i64 r, .int .i64 s]] w fun e w' => e = .returned (.bool true) ∧ Below w.heap.size w w'))
    (M1 : Hid (∀ w : World, Calls Try.prog 39 #[.agg #[.int .i64 c, .int .i64 d], .agg #[.int .i64 p, .int .i64 q]] w fun e w' => e = .returned (.int .i64 m1) ∧ Below w.heap.size w w'))
    (M2 : Hid (∀ w : World, Calls Try.prog 39 #[.agg #[.int .i64 r, .int .i64 s], .agg #[.int .i64 a, .int .i64 b]] w fun e w' => e = .returned (.int .i64 m2) ∧ Below w.heap.size w w'))
    (M3 : Hid (∀ w : World, Calls Try.prog 39 #[.agg #[.int .i64 a, .int .i64 b], .agg #[.int .i64 r, .int .i64 s]] w fun e w' => e = .returned (.int .i64 m3) ∧ Below w.heap.size w w'))
    (w : World) : Calls Try.prog 29 #[.int .i64 op, .agg #[.int .i64 a, .int .i64 b, .int .i64 c, .int .i64 d], .agg #[.int .i64 p, .int .i64 q, .int .i64 r, .int .i64 s]] w fun e w' => e = .returned (.int .i64 (icmp op m1 m2 m3)) ∧ Below w.heap.size w w' := by
  have T0 := Lib.hid (two0 w #[.int .i64 a, .int .i64 b, .int .i64 c, .int .i64 d] #[.int .i64 p, .int .i64 q, .int .i64 r, .int .i64 s] 25 25)
  rw [show icmp op m1 m2 m3 = (-1) from by unfold icmp fin; (repeat' split) <;> omega]
  go_enter Try.func29, Try.ntmps29
  go_wp2_with fail
  with_reducible refine ((V.out) _).mono ?_
  rintro e w0 ⟨rfl, hb⟩
  have T1 := Lib.hid (T0.out.step hb)
  clear hb T0 V
  obtain ⟨x0, x1, x2, x3, x4⟩ := Has.c4 (g := w.heap.size) (x := .int .i64 a) (y := .int .i64 b) (z := .int .i64 c) (u := .int .i64 d) (t := 25) T1.out (by simp)
  obtain ⟨y0, y1, y2, y3, y4⟩ := Has.c4 (g := w.heap.size + 1) (x := .int .i64 p) (y := .int .i64 q) (z := .int .i64 r) (u := .int .i64 s) (t := 25) T1.out (by simp)
  go_wp2
  go_ret
  refine ⟨?_, T1.out.1⟩
  first | rfl | (simp [*]; done)
set_option maxHeartbeats 1000000 in
theorem icompareNo (op a b c d p q r s : Int)
    (V : Hid (∀ w : World, Calls Try.prog 41 #[.agg #[.int .i64 a, .int .i64 b, .int .i64 c, .int .i64 d], .agg #[.int .i64 p, .int .i64 q, .int .i64 r, .int .i64 s]] w fun e w' => e = .returned (.bool false) ∧ Below w.heap.size w w'))
    (w : World) : Calls Try.prog 29 #[.int .i64 op, .agg #[.int .i64 a, .int .i64 b, .int .i64 c, .int .i64 d], .agg #[.int .i64 p, .int .i64 q, .int .i64 r, .int .i64 s]] w fun e w' => e = .returned (.int .i64 (-1)) ∧ Below w.heap.size w w' := by
  have T0 := Lib.hid (two0 w #[.int .i64 a, .int .i64 b, .int .i64 c, .int .i64 d] #[.int .i64 p, .int .i64 q, .int .i64 r, .int .i64 s] 25 25)
  go_enter Try.func29, Try.ntmps29
  go_wp2_with fail
  with_reducible refine ((V.out) _).mono ?_
  rintro e w0 ⟨rfl, hb⟩
  have T1 := Lib.hid (T0.out.step hb)
  clear hb T0 V
  go_wp2
  go_ret
  refine ⟨?_, T1.out.1⟩
  first | rfl | (simp [*]; done)
end Go.Proofs.Ytbiegbnncnjnmaa.Iv
