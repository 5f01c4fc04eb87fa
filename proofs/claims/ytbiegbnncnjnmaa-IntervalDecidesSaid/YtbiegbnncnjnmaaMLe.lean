/- The walk of the law IntervalMonotone. -/
import Derived.Test.YtbiegbnncnjnmaaMLa
set_option linter.unusedVariables false
set_option linter.unusedSimpArgs false
namespace Go.Proofs.Ytbiegbnncnjnmaa.Iv
open Go.RowKit
open Go.Proofs.Ytbiegbnncnjnmaa.Pro

theorem four0 (w : World) (cs ds es fs : Array Value) (t s u v : TypeId) : Has w [(w.heap.size + 1 + 1 + 1, fs, v), (w.heap.size + 1 + 1, es, u), (w.heap.size + 1, ds, s), (w.heap.size, cs, t)] ((((w.alloc (.cells cs t)).alloc (.cells ds s)).alloc (.cells es u)).alloc (.cells fs v)) := by
  have h := (three0 w cs ds es t s u).alloc fs v
  simp only [World.size_alloc] at h
  exact h
/-- The four arguments stand. -/
structure LE (w : World) (a b c d p q r s a' b' c' d' p' q' r' s' : Int) (V : World) : Prop where
  has : Has w [(w.heap.size + 1 + 1 + 1, #[.int .i64 p', .int .i64 q', .int .i64 r', .int .i64 s'], 25), (w.heap.size + 1 + 1, #[.int .i64 a', .int .i64 b', .int .i64 c', .int .i64 d'], 25), (w.heap.size + 1, #[.int .i64 p, .int .i64 q, .int .i64 r, .int .i64 s], 25), (w.heap.size, #[.int .i64 a, .int .i64 b, .int .i64 c, .int .i64 d], 25)] V
structure LEk (w : World) (a b c d p q r s a' b' c' d' p' q' r' s' : Int) (V : World) : Prop where
  out : LE w a b c d p q r s a' b' c' d' p' q' r' s' V
theorem LE.drew {w V : World} {a b c d p q r s a' b' c' d' p' q' r' s' : Int} (h : LE w a b c d p q r s a' b' c' d' p' q' r' s' V) : LE w a b c d p q r s a' b' c' d' p' q' r' s' V.drew := ⟨h.has.drew⟩
theorem LE.step {w V V2 : World} {a b c d p q r s a' b' c' d' p' q' r' s' : Int} (hb : Below V.heap.size V V2) (h : LE w a b c d p q r s a' b' c' d' p' q' r' s' V) : LE w a b c d p q r s a' b' c' d' p' q' r' s' V2 := ⟨h.has.step hb⟩
theorem LE.all {w V : World} {a b c d p q r s a' b' c' d' p' q' r' s' : Int} (h : LE w a b c d p q r s a' b' c' d' p' q' r' s' V) : LE w a b c d p q r s a' b' c' d' p' q' r' s' V ∧ (V.cell? ⟨w.heap.size, 0, none⟩ = some (.int .i64 a) ∧ V.cell? ⟨w.heap.size, 1, none⟩ = some (.int .i64 b) ∧ V.cell? ⟨w.heap.size, 2, none⟩ = some (.int .i64 c) ∧ V.cell? ⟨w.heap.size, 3, none⟩ = some (.int .i64 d)) ∧ (V.cell? ⟨w.heap.size + 1, 0, none⟩ = some (.int .i64 p) ∧ V.cell? ⟨w.heap.size + 1, 1, none⟩ = some (.int .i64 q) ∧ V.cell? ⟨w.heap.size + 1, 2, none⟩ = some (.int .i64 r) ∧ V.cell? ⟨w.heap.size + 1, 3, none⟩ = some (.int .i64 s)) ∧ (V.cell? ⟨w.heap.size + 1 + 1, 0, none⟩ = some (.int .i64 a') ∧ V.cell? ⟨w.heap.size + 1 + 1, 1, none⟩ = some (.int .i64 b') ∧ V.cell? ⟨w.heap.size + 1 + 1, 2, none⟩ = some (.int .i64 c') ∧ V.cell? ⟨w.heap.size + 1 + 1, 3, none⟩ = some (.int .i64 d')) ∧ (V.cell? ⟨w.heap.size + 1 + 1 + 1, 0, none⟩ = some (.int .i64 p') ∧ V.cell? ⟨w.heap.size + 1 + 1 + 1, 1, none⟩ = some (.int .i64 q') ∧ V.cell? ⟨w.heap.size + 1 + 1 + 1, 2, none⟩ = some (.int .i64 r') ∧ V.cell? ⟨w.heap.size + 1 + 1 + 1, 3, none⟩ = some (.int .i64 s')) :=
  have h0 := Has.c4 (g := w.heap.size) (x := .int .i64 a) (y := .int .i64 b) (z := .int .i64 c) (u := .int .i64 d) (t := 25) h.has (by simp)
  have h1 := Has.c4 (g := w.heap.size + 1) (x := .int .i64 p) (y := .int .i64 q) (z := .int .i64 r) (u := .int .i64 s) (t := 25) h.has (by simp)
  have h2 := Has.c4 (g := w.heap.size + 1 + 1) (x := .int .i64 a') (y := .int .i64 b') (z := .int .i64 c') (u := .int .i64 d') (t := 25) h.has (by simp)
  have h3 := Has.c4 (g := w.heap.size + 1 + 1 + 1) (x := .int .i64 p') (y := .int .i64 q') (z := .int .i64 r') (u := .int .i64 s') (t := 25) h.has (by simp)
  ⟨h, ⟨h0.1, h0.2.1, h0.2.2.1, h0.2.2.2.1⟩, ⟨h1.1, h1.2.1, h1.2.2.1, h1.2.2.2.1⟩, ⟨h2.1, h2.2.1, h2.2.2.1, h2.2.2.2.1⟩, ⟨h3.1, h3.2.1, h3.2.2.1, h3.2.2.2.1⟩⟩
set_option maxHeartbeats 4000000 in
set_option maxRecDepth 100000 in
theorem nlaw_raw (a b c d p q r s a' b' c' d' p' q' r' s' r0_0 r1_0 r2_0 r3_0 e0 s0_0 s1_0 s2_0 s3_0 f0 r0_1 r1_1 r2_1 r3_1 e1 s0_1 s1_1 s2_1 s3_1 f1 r0_2 r1_2 r2_2 r3_2 e2 s0_2 s1_2 s2_2 s3_2 f2 r0_3 r1_3 r2_3 r3_3 e3 s0_3 s1_3 s2_3 s3_3 f3 mn0 mn1 mn2 mn3 mm0 mm1 mm2 mm3 xn0 xn1 xn2 xn3 xm0 xm1 xm2 xm3 hn0 hn1 hn2 hn3 hm0 hm1 hm2 hm3 : Int)
    (CU : Hid (∀ w : World, Calls Try.prog 17 #[.agg #[.int .i64 a, .int .i64 b, .int .i64 c, .int .i64 d], .agg #[.int .i64 a', .int .i64 b', .int .i64 c', .int .i64 d']] w fun e w' => e = .returned (.bool true) ∧ Below w.heap.size w w'))
    (CV : Hid (∀ w : World, Calls Try.prog 17 #[.agg #[.int .i64 p, .int .i64 q, .int .i64 r, .int .i64 s], .agg #[.int .i64 p', .int .i64 q', .int .i64 r', .int .i64 s']] w fun e w' => e = .returned (.bool true) ∧ Below w.heap.size w w'))
    (A0 : Hid (∀ w : World, Calls Try.prog 20 #[.int .i64 0, .agg #[.int .i64 a, .int .i64 b, .int .i64 c, .int .i64 d], .agg #[.int .i64 p, .int .i64 q, .int .i64 r, .int .i64 s]] w fun e w' => e = .returned (.tuple #[.agg #[.int .i64 r0_0, .int .i64 r1_0, .int .i64 r2_0, .int .i64 r3_0], .int .i64 e0]) ∧ Below w.heap.size w w'))
    (B0 : Hid (∀ w : World, Calls Try.prog 20 #[.int .i64 0, .agg #[.int .i64 a', .int .i64 b', .int .i64 c', .int .i64 d'], .agg #[.int .i64 p', .int .i64 q', .int .i64 r', .int .i64 s']] w fun e w' => e = .returned (.tuple #[.agg #[.int .i64 s0_0, .int .i64 s1_0, .int .i64 s2_0, .int .i64 s3_0], .int .i64 f0]) ∧ Below w.heap.size w w'))
    (C0 : Hid (∀ w : World, e0 = 0 → f0 = 0 → Calls Try.prog 17 #[.agg #[.int .i64 r0_0, .int .i64 r1_0, .int .i64 r2_0, .int .i64 r3_0], .agg #[.int .i64 s0_0, .int .i64 s1_0, .int .i64 s2_0, .int .i64 s3_0]] w fun e w' => e = .returned (.bool true) ∧ Below w.heap.size w w'))
    (F0 : Hid (e0 = 0 → ¬ f0 = 26 ∧ ¬ f0 = 23))
    (A1 : Hid (∀ w : World, Calls Try.prog 20 #[.int .i64 1, .agg #[.int .i64 a, .int .i64 b, .int .i64 c, .int .i64 d], .agg #[.int .i64 p, .int .i64 q, .int .i64 r, .int .i64 s]] w fun e w' => e = .returned (.tuple #[.agg #[.int .i64 r0_1, .int .i64 r1_1, .int .i64 r2_1, .int .i64 r3_1], .int .i64 e1]) ∧ Below w.heap.size w w'))
    (B1 : Hid (∀ w : World, Calls Try.prog 20 #[.int .i64 1, .agg #[.int .i64 a', .int .i64 b', .int .i64 c', .int .i64 d'], .agg #[.int .i64 p', .int .i64 q', .int .i64 r', .int .i64 s']] w fun e w' => e = .returned (.tuple #[.agg #[.int .i64 s0_1, .int .i64 s1_1, .int .i64 s2_1, .int .i64 s3_1], .int .i64 f1]) ∧ Below w.heap.size w w'))
    (C1 : Hid (∀ w : World, e1 = 0 → f1 = 0 → Calls Try.prog 17 #[.agg #[.int .i64 r0_1, .int .i64 r1_1, .int .i64 r2_1, .int .i64 r3_1], .agg #[.int .i64 s0_1, .int .i64 s1_1, .int .i64 s2_1, .int .i64 s3_1]] w fun e w' => e = .returned (.bool true) ∧ Below w.heap.size w w'))
    (F1 : Hid (e1 = 0 → ¬ f1 = 26 ∧ ¬ f1 = 23))
    (A2 : Hid (∀ w : World, Calls Try.prog 20 #[.int .i64 2, .agg #[.int .i64 a, .int .i64 b, .int .i64 c, .int .i64 d], .agg #[.int .i64 p, .int .i64 q, .int .i64 r, .int .i64 s]] w fun e w' => e = .returned (.tuple #[.agg #[.int .i64 r0_2, .int .i64 r1_2, .int .i64 r2_2, .int .i64 r3_2], .int .i64 e2]) ∧ Below w.heap.size w w'))
    (B2 : Hid (∀ w : World, Calls Try.prog 20 #[.int .i64 2, .agg #[.int .i64 a', .int .i64 b', .int .i64 c', .int .i64 d'], .agg #[.int .i64 p', .int .i64 q', .int .i64 r', .int .i64 s']] w fun e w' => e = .returned (.tuple #[.agg #[.int .i64 s0_2, .int .i64 s1_2, .int .i64 s2_2, .int .i64 s3_2], .int .i64 f2]) ∧ Below w.heap.size w w'))
    (C2 : Hid (∀ w : World, e2 = 0 → f2 = 0 → Calls Try.prog 17 #[.agg #[.int .i64 r0_2, .int .i64 r1_2, .int .i64 r2_2, .int .i64 r3_2], .agg #[.int .i64 s0_2, .int .i64 s1_2, .int .i64 s2_2, .int .i64 s3_2]] w fun e w' => e = .returned (.bool true) ∧ Below w.heap.size w w'))
    (F2 : Hid (e2 = 0 → ¬ f2 = 26 ∧ ¬ f2 = 23))
    (A3 : Hid (∀ w : World, Calls Try.prog 20 #[.int .i64 3, .agg #[.int .i64 a, .int .i64 b, .int .i64 c, .int .i64 d], .agg #[.int .i64 p, .int .i64 q, .int .i64 r, .int .i64 s]] w fun e w' => e = .returned (.tuple #[.agg #[.int .i64 r0_3, .int .i64 r1_3, .int .i64 r2_3, .int .i64 r3_3], .int .i64 e3]) ∧ Below w.heap.size w w'))
    (B3 : Hid (∀ w : World, Calls Try.prog 20 #[.int .i64 3, .agg #[.int .i64 a', .int .i64 b', .int .i64 c', .int .i64 d'], .agg #[.int .i64 p', .int .i64 q', .int .i64 r', .int .i64 s']] w fun e w' => e = .returned (.tuple #[.agg #[.int .i64 s0_3, .int .i64 s1_3, .int .i64 s2_3, .int .i64 s3_3], .int .i64 f3]) ∧ Below w.heap.size w w'))
    (C3 : Hid (∀ w : World, e3 = 0 → f3 = 0 → Calls Try.prog 17 #[.agg #[.int .i64 r0_3, .int .i64 r1_3, .int .i64 r2_3, .int .i64 r3_3], .agg #[.int .i64 s0_3, .int .i64 s1_3, .int .i64 s2_3, .int .i64 s3_3]] w fun e w' => e = .returned (.bool true) ∧ Below w.heap.size w w'))
    (F3 : Hid (e3 = 0 → ¬ f3 = 26 ∧ ¬ f3 = 23))
    (Dmn : Hid (∀ w : World, Calls Try.prog 24 #[.agg #[.int .i64 a, .int .i64 b, .int .i64 c, .int .i64 d], .agg #[.int .i64 p, .int .i64 q, .int .i64 r, .int .i64 s]] w fun e w' => e = .returned (.agg #[.int .i64 mn0, .int .i64 mn1, .int .i64 mn2, .int .i64 mn3]) ∧ Below w.heap.size w w'))
    (Dmm : Hid (∀ w : World, Calls Try.prog 24 #[.agg #[.int .i64 a', .int .i64 b', .int .i64 c', .int .i64 d'], .agg #[.int .i64 p', .int .i64 q', .int .i64 r', .int .i64 s']] w fun e w' => e = .returned (.agg #[.int .i64 mm0, .int .i64 mm1, .int .i64 mm2, .int .i64 mm3]) ∧ Below w.heap.size w w'))
    (Dxn : Hid (∀ w : World, Calls Try.prog 26 #[.agg #[.int .i64 a, .int .i64 b, .int .i64 c, .int .i64 d], .agg #[.int .i64 p, .int .i64 q, .int .i64 r, .int .i64 s]] w fun e w' => e = .returned (.agg #[.int .i64 xn0, .int .i64 xn1, .int .i64 xn2, .int .i64 xn3]) ∧ Below w.heap.size w w'))
    (Dxm : Hid (∀ w : World, Calls Try.prog 26 #[.agg #[.int .i64 a', .int .i64 b', .int .i64 c', .int .i64 d'], .agg #[.int .i64 p', .int .i64 q', .int .i64 r', .int .i64 s']] w fun e w' => e = .returned (.agg #[.int .i64 xm0, .int .i64 xm1, .int .i64 xm2, .int .i64 xm3]) ∧ Below w.heap.size w w'))
    (Dhn : Hid (∀ w : World, Calls Try.prog 22 #[.agg #[.int .i64 a, .int .i64 b, .int .i64 c, .int .i64 d], .agg #[.int .i64 p, .int .i64 q, .int .i64 r, .int .i64 s]] w fun e w' => e = .returned (.agg #[.int .i64 hn0, .int .i64 hn1, .int .i64 hn2, .int .i64 hn3]) ∧ Below w.heap.size w w'))
    (Dhm : Hid (∀ w : World, Calls Try.prog 22 #[.agg #[.int .i64 a', .int .i64 b', .int .i64 c', .int .i64 d'], .agg #[.int .i64 p', .int .i64 q', .int .i64 r', .int .i64 s']] w fun e w' => e = .returned (.agg #[.int .i64 hm0, .int .i64 hm1, .int .i64 hm2, .int .i64 hm3]) ∧ Below w.heap.size w w'))
    (Emn : Hid (∀ w : World, Calls Try.prog 17 #[.agg #[.int .i64 mn0, .int .i64 mn1, .int .i64 mn2, .int .i64 mn3], .agg #[.int .i64 mm0, .int .i64 mm1, .int .i64 mm2, .int .i64 mm3]] w fun e w' => e = .returned (.bool true) ∧ Below w.heap.size w w'))
    (Exn : Hid (∀ w : World, Calls Try.prog 17 #[.agg #[.int .i64 xn0, .int .i64 xn1, .int .i64 xn2, .int .i64 xn3], .agg #[.int .i64 xm0, .int .i64 xm1, .int .i64 xm2, .int .i64 xm3]] w fun e w' => e = .returned (.bool true) ∧ Below w.heap.size w w'))
    (Ehn : Hid (∀ w : World, Calls Try.prog 17 #[.agg #[.int .i64 hn0, .int .i64 hn1, .int .i64 hn2, .int .i64 hn3], .agg #[.int .i64 hm0, .int .i64 hm1, .int .i64 hm2, .int .i64 hm3]] w fun e w' => e = .returned (.bool true) ∧ Below w.heap.size w w'))
    (AW : Hid (∀ w : World, Calls Try.prog 19 #[] w fun e w' => e = .returned (.bool true) ∧ Below w.heap.size w w'))
    (w : World) : Calls Try.prog 8 #[.agg #[.int .i64 a, .int .i64 b, .int .i64 c, .int .i64 d], .agg #[.int .i64 p, .int .i64 q, .int .i64 r, .int .i64 s], .agg #[.int .i64 a', .int .i64 b', .int .i64 c', .int .i64 d'], .agg #[.int .i64 p', .int .i64 q', .int .i64 r', .int .i64 s']] w fun e w' => e = .returned (.bool true) ∧ Below w.heap.size w w' := by
  have T0 := Lib.hid (four0 w #[.int .i64 a, .int .i64 b, .int .i64 c, .int .i64 d] #[.int .i64 p, .int .i64 q, .int .i64 r, .int .i64 s] #[.int .i64 a', .int .i64 b', .int .i64 c', .int .i64 d'] #[.int .i64 p', .int .i64 q', .int .i64 r', .int .i64 s'] 25 25 25 25)
  go_enter Try.func8, Try.ntmps8
  go_upto_region 1 with fail
  generalize (((w.alloc (.cells #[.int .i64 a, .int .i64 b, .int .i64 c, .int .i64 d] 25)).alloc (.cells #[.int .i64 p, .int .i64 q, .int .i64 r, .int .i64 s] 25)).alloc (.cells #[.int .i64 a', .int .i64 b', .int .i64 c', .int .i64 d'] 25)).alloc (.cells #[.int .i64 p', .int .i64 q', .int .i64 r', .int .i64 s'] 25) = W0 at *
  obtain ⟨h0, h1, h2, h3, h4⟩ := Has.c4 (g := w.heap.size) (x := .int .i64 a) (y := .int .i64 b) (z := .int .i64 c) (u := .int .i64 d) (t := 25) T0.out (by simp)
  obtain ⟨j0, j1, j2, j3, j4⟩ := Has.c4 (g := w.heap.size + 1) (x := .int .i64 p) (y := .int .i64 q) (z := .int .i64 r) (u := .int .i64 s) (t := 25) T0.out (by simp)
  obtain ⟨k0, k1, k2, k3, k4⟩ := Has.c4 (g := w.heap.size + 1 + 1) (x := .int .i64 a') (y := .int .i64 b') (z := .int .i64 c') (u := .int .i64 d') (t := 25) T0.out (by simp)
  obtain ⟨l0, l1, l2, l3, l4⟩ := Has.c4 (g := w.heap.size + 1 + 1 + 1) (x := .int .i64 p') (y := .int .i64 q') (z := .int .i64 r') (u := .int .i64 s') (t := 25) T0.out (by simp)
  go_wp2_with fail
  with_reducible refine ((CU.out) _).mono ?_
  rintro e w1 ⟨rfl, hb⟩
  have T1 := Lib.hid (T0.out.step hb)
  clear hb T0 CU h0 h1 h2 h3 h4 j0 j1 j2 j3 j4 k0 k1 k2 k3 k4 l0 l1 l2 l3 l4
  obtain ⟨h0, h1, h2, h3, h4⟩ := Has.c4 (g := w.heap.size) (x := .int .i64 a) (y := .int .i64 b) (z := .int .i64 c) (u := .int .i64 d) (t := 25) T1.out (by simp)
  obtain ⟨j0, j1, j2, j3, j4⟩ := Has.c4 (g := w.heap.size + 1) (x := .int .i64 p) (y := .int .i64 q) (z := .int .i64 r) (u := .int .i64 s) (t := 25) T1.out (by simp)
  obtain ⟨k0, k1, k2, k3, k4⟩ := Has.c4 (g := w.heap.size + 1 + 1) (x := .int .i64 a') (y := .int .i64 b') (z := .int .i64 c') (u := .int .i64 d') (t := 25) T1.out (by simp)
  obtain ⟨l0, l1, l2, l3, l4⟩ := Has.c4 (g := w.heap.size + 1 + 1 + 1) (x := .int .i64 p') (y := .int .i64 q') (z := .int .i64 r') (u := .int .i64 s') (t := 25) T1.out (by simp)
  go_wp2_with fail
  with_reducible refine ((CV.out) _).mono ?_
  rintro e w2 ⟨rfl, hb⟩
  have T2 := Lib.hid (T1.out.step hb)
  clear hb T1 CV h0 h1 h2 h3 h4 j0 j1 j2 j3 j4 k0 k1 k2 k3 k4 l0 l1 l2 l3 l4
  go_wp2_with fail
  go_loopw [25] (fun vi wr => ∃ k : Int, vi = .int .i64 k ∧ 0 ≤ k ∧ k ≤ 4 ∧ Hid (Has w [(w.heap.size + 1 + 1 + 1, #[.int .i64 p', .int .i64 q', .int .i64 r', .int .i64 s'], 25), (w.heap.size + 1 + 1, #[.int .i64 a', .int .i64 b', .int .i64 c', .int .i64 d'], 25), (w.heap.size + 1, #[.int .i64 p, .int .i64 q, .int .i64 r, .int .i64 s], 25), (w.heap.size, #[.int .i64 a, .int .i64 b, .int .i64 c, .int .i64 d], 25)] wr)) (fun vi _ => (4 - intOf vi).toNat)
  case atStart => exact ⟨0, rfl, by omega, by omega, T2⟩
  case round =>
    clear T2
    obtain ⟨k, rfl, hk0, hk4, H⟩ := hrel
    have hk : k = 0 ∨ k = 1 ∨ k = 2 ∨ k = 3 ∨ k = 4 := by omega
    clear hk0 hk4
    rcases hk with rfl | rfl | rfl | rfl | rfl
    · skip
      obtain ⟨h0, h1, h2, h3, h4⟩ := Has.c4 (g := w.heap.size) (x := .int .i64 a) (y := .int .i64 b) (z := .int .i64 c) (u := .int .i64 d) (t := 25) H.out (by simp)
      obtain ⟨j0, j1, j2, j3, j4⟩ := Has.c4 (g := w.heap.size + 1) (x := .int .i64 p) (y := .int .i64 q) (z := .int .i64 r) (u := .int .i64 s) (t := 25) H.out (by simp)
      go_wp2_with fail
      with_reducible refine (A0.out _).mono ?_
      rintro e w1 ⟨rfl, hb⟩
      have T1 := Lib.hid ((H.out.step hb).alloc #[.int .i64 r0_0, .int .i64 r1_0, .int .i64 r2_0, .int .i64 r3_0] 25)
      clear hb H h0 h1 h2 h3 h4 j0 j1 j2 j3 j4
      go_upto_region 7 with fail
      generalize w1.alloc (.cells #[.int .i64 r0_0, .int .i64 r1_0, .int .i64 r2_0, .int .i64 r3_0] 25) = yy1 at *
      generalize w1.heap.size = ga at *
      obtain ⟨k0, k1, k2, k3, k4⟩ := Has.c4 (g := w.heap.size + 1 + 1) (x := .int .i64 a') (y := .int .i64 b') (z := .int .i64 c') (u := .int .i64 d') (t := 25) T1.out (by simp)
      obtain ⟨l0, l1, l2, l3, l4⟩ := Has.c4 (g := w.heap.size + 1 + 1 + 1) (x := .int .i64 p') (y := .int .i64 q') (z := .int .i64 r') (u := .int .i64 s') (t := 25) T1.out (by simp)
      go_wp2_with fail
      with_reducible refine (B0.out _).mono ?_
      rintro e w2 ⟨rfl, hb⟩
      have T2 := Lib.hid ((T1.out.step hb).alloc #[.int .i64 s0_0, .int .i64 s1_0, .int .i64 s2_0, .int .i64 s3_0] 25)
      clear hb T1 k0 k1 k2 k3 k4 l0 l1 l2 l3 l4
      go_upto_region 8 with fail
      generalize w2.alloc (.cells #[.int .i64 s0_0, .int .i64 s1_0, .int .i64 s2_0, .int .i64 s3_0] 25) = yy2 at *
      generalize w2.heap.size = gb at *
      obtain ⟨h0, h1, h2, h3, h4⟩ := Has.c4 (g := ga) (x := .int .i64 r0_0) (y := .int .i64 r1_0) (z := .int .i64 r2_0) (u := .int .i64 r3_0) (t := 25) T2.out (by simp)
      obtain ⟨j0, j1, j2, j3, j4⟩ := Has.c4 (g := gb) (x := .int .i64 s0_0) (y := .int .i64 s1_0) (z := .int .i64 s2_0) (u := .int .i64 s3_0) (t := 25) T2.out (by simp)
      by_cases he : e0 = 0
      · by_cases hf : f0 = 0
        · have CK := Lib.hid fun w => C0.out w he hf
          subst he hf
          go_wp2_with fail
          with_reducible refine (CK.out _).mono ?_
          rintro e w3 ⟨rfl, hb⟩
          have T3 := Lib.hid (T2.out.step hb)
          clear hb T2 h0 h1 h2 h3 h4 j0 j1 j2 j3 j4
          go_wp2_with fail
          go_roundw
          case rel => exact ⟨1, (by first | rfl | trivial), by omega, by omega, T3.out.sub (by simp)⟩
          case measure => simp [intOf]
        · obtain ⟨f26, f23⟩ := F0.out he
          subst he
          have g26 : (f0 == 26) = false := by simp [f26]
          have g23 : (f0 == 23) = false := by simp [f23]
          go_wp2_with fail
          go_roundw
          case rel => exact ⟨1, (by first | rfl | trivial), by omega, by omega, T2.out.sub (by simp)⟩
          case measure => simp [intOf]
      · skip
        go_wp2_with fail
        go_roundw
        case rel => exact ⟨1, (by first | rfl | trivial), by omega, by omega, T2.out.sub (by simp)⟩
        case measure => simp [intOf]
    · skip
      obtain ⟨h0, h1, h2, h3, h4⟩ := Has.c4 (g := w.heap.size) (x := .int .i64 a) (y := .int .i64 b) (z := .int .i64 c) (u := .int .i64 d) (t := 25) H.out (by simp)
      obtain ⟨j0, j1, j2, j3, j4⟩ := Has.c4 (g := w.heap.size + 1) (x := .int .i64 p) (y := .int .i64 q) (z := .int .i64 r) (u := .int .i64 s) (t := 25) H.out (by simp)
      go_wp2_with fail
      with_reducible refine (A1.out _).mono ?_
      rintro e w1 ⟨rfl, hb⟩
      have T1 := Lib.hid ((H.out.step hb).alloc #[.int .i64 r0_1, .int .i64 r1_1, .int .i64 r2_1, .int .i64 r3_1] 25)
      clear hb H h0 h1 h2 h3 h4 j0 j1 j2 j3 j4
      go_upto_region 7 with fail
      generalize w1.alloc (.cells #[.int .i64 r0_1, .int .i64 r1_1, .int .i64 r2_1, .int .i64 r3_1] 25) = yy1 at *
      generalize w1.heap.size = ga at *
      obtain ⟨k0, k1, k2, k3, k4⟩ := Has.c4 (g := w.heap.size + 1 + 1) (x := .int .i64 a') (y := .int .i64 b') (z := .int .i64 c') (u := .int .i64 d') (t := 25) T1.out (by simp)
      obtain ⟨l0, l1, l2, l3, l4⟩ := Has.c4 (g := w.heap.size + 1 + 1 + 1) (x := .int .i64 p') (y := .int .i64 q') (z := .int .i64 r') (u := .int .i64 s') (t := 25) T1.out (by simp)
      go_wp2_with fail
      with_reducible refine (B1.out _).mono ?_
      rintro e w2 ⟨rfl, hb⟩
      have T2 := Lib.hid ((T1.out.step hb).alloc #[.int .i64 s0_1, .int .i64 s1_1, .int .i64 s2_1, .int .i64 s3_1] 25)
      clear hb T1 k0 k1 k2 k3 k4 l0 l1 l2 l3 l4
      go_upto_region 8 with fail
      generalize w2.alloc (.cells #[.int .i64 s0_1, .int .i64 s1_1, .int .i64 s2_1, .int .i64 s3_1] 25) = yy2 at *
      generalize w2.heap.size = gb at *
      obtain ⟨h0, h1, h2, h3, h4⟩ := Has.c4 (g := ga) (x := .int .i64 r0_1) (y := .int .i64 r1_1) (z := .int .i64 r2_1) (u := .int .i64 r3_1) (t := 25) T2.out (by simp)
      obtain ⟨j0, j1, j2, j3, j4⟩ := Has.c4 (g := gb) (x := .int .i64 s0_1) (y := .int .i64 s1_1) (z := .int .i64 s2_1) (u := .int .i64 s3_1) (t := 25) T2.out (by simp)
      by_cases he : e1 = 0
      · by_cases hf : f1 = 0
        · have CK := Lib.hid fun w => C1.out w he hf
          subst he hf
          go_wp2_with fail
          with_reducible refine (CK.out _).mono ?_
          rintro e w3 ⟨rfl, hb⟩
          have T3 := Lib.hid (T2.out.step hb)
          clear hb T2 h0 h1 h2 h3 h4 j0 j1 j2 j3 j4
          go_wp2_with fail
          go_roundw
          case rel => exact ⟨2, (by first | rfl | trivial), by omega, by omega, T3.out.sub (by simp)⟩
          case measure => simp [intOf]
        · obtain ⟨f26, f23⟩ := F1.out he
          subst he
          have g26 : (f1 == 26) = false := by simp [f26]
          have g23 : (f1 == 23) = false := by simp [f23]
          go_wp2_with fail
          go_roundw
          case rel => exact ⟨2, (by first | rfl | trivial), by omega, by omega, T2.out.sub (by simp)⟩
          case measure => simp [intOf]
      · skip
        go_wp2_with fail
        go_roundw
        case rel => exact ⟨2, (by first | rfl | trivial), by omega, by omega, T2.out.sub (by simp)⟩
        case measure => simp [intOf]
    · skip
      obtain ⟨h0, h1, h2, h3, h4⟩ := Has.c4 (g := w.heap.size) (x := .int .i64 a) (y := .int .i64 b) (z := .int .i64 c) (u := .int .i64 d) (t := 25) H.out (by simp)
      obtain ⟨j0, j1, j2, j3, j4⟩ := Has.c4 (g := w.heap.size + 1) (x := .int .i64 p) (y := .int .i64 q) (z := .int .i64 r) (u := .int .i64 s) (t := 25) H.out (by simp)
      go_wp2_with fail
      with_reducible refine (A2.out _).mono ?_
      rintro e w1 ⟨rfl, hb⟩
      have T1 := Lib.hid ((H.out.step hb).alloc #[.int .i64 r0_2, .int .i64 r1_2, .int .i64 r2_2, .int .i64 r3_2] 25)
      clear hb H h0 h1 h2 h3 h4 j0 j1 j2 j3 j4
      go_upto_region 7 with fail
      generalize w1.alloc (.cells #[.int .i64 r0_2, .int .i64 r1_2, .int .i64 r2_2, .int .i64 r3_2] 25) = yy1 at *
      generalize w1.heap.size = ga at *
      obtain ⟨k0, k1, k2, k3, k4⟩ := Has.c4 (g := w.heap.size + 1 + 1) (x := .int .i64 a') (y := .int .i64 b') (z := .int .i64 c') (u := .int .i64 d') (t := 25) T1.out (by simp)
      obtain ⟨l0, l1, l2, l3, l4⟩ := Has.c4 (g := w.heap.size + 1 + 1 + 1) (x := .int .i64 p') (y := .int .i64 q') (z := .int .i64 r') (u := .int .i64 s') (t := 25) T1.out (by simp)
      go_wp2_with fail
      with_reducible refine (B2.out _).mono ?_
      rintro e w2 ⟨rfl, hb⟩
      have T2 := Lib.hid ((T1.out.step hb).alloc #[.int .i64 s0_2, .int .i64 s1_2, .int .i64 s2_2, .int .i64 s3_2] 25)
      clear hb T1 k0 k1 k2 k3 k4 l0 l1 l2 l3 l4
      go_upto_region 8 with fail
      generalize w2.alloc (.cells #[.int .i64 s0_2, .int .i64 s1_2, .int .i64 s2_2, .int .i64 s3_2] 25) = yy2 at *
      generalize w2.heap.size = gb at *
      obtain ⟨h0, h1, h2, h3, h4⟩ := Has.c4 (g := ga) (x := .int .i64 r0_2) (y := .int .i64 r1_2) (z := .int .i64 r2_2) (u := .int .i64 r3_2) (t := 25) T2.out (by simp)
      obtain ⟨j0, j1, j2, j3, j4⟩ := Has.c4 (g := gb) (x := .int .i64 s0_2) (y := .int .i64 s1_2) (z := .int .i64 s2_2) (u := .int .i64 s3_2) (t := 25) T2.out (by simp)
      by_cases he : e2 = 0
      · by_cases hf : f2 = 0
        · have CK := Lib.hid fun w => C2.out w he hf
          subst he hf
          go_wp2_with fail
          with_reducible refine (CK.out _).mono ?_
          rintro e w3 ⟨rfl, hb⟩
          have T3 := Lib.hid (T2.out.step hb)
          clear hb T2 h0 h1 h2 h3 h4 j0 j1 j2 j3 j4
          go_wp2_with fail
          go_roundw
          case rel => exact ⟨3, (by first | rfl | trivial), by omega, by omega, T3.out.sub (by simp)⟩
          case measure => simp [intOf]
        · obtain ⟨f26, f23⟩ := F2.out he
          subst he
          have g26 : (f2 == 26) = false := by simp [f26]
          have g23 : (f2 == 23) = false := by simp [f23]
          go_wp2_with fail
          go_roundw
          case rel => exact ⟨3, (by first | rfl | trivial), by omega, by omega, T2.out.sub (by simp)⟩
          case measure => simp [intOf]
      · skip
        go_wp2_with fail
        go_roundw
        case rel => exact ⟨3, (by first | rfl | trivial), by omega, by omega, T2.out.sub (by simp)⟩
        case measure => simp [intOf]
    · skip
      obtain ⟨h0, h1, h2, h3, h4⟩ := Has.c4 (g := w.heap.size) (x := .int .i64 a) (y := .int .i64 b) (z := .int .i64 c) (u := .int .i64 d) (t := 25) H.out (by simp)
      obtain ⟨j0, j1, j2, j3, j4⟩ := Has.c4 (g := w.heap.size + 1) (x := .int .i64 p) (y := .int .i64 q) (z := .int .i64 r) (u := .int .i64 s) (t := 25) H.out (by simp)
      go_wp2_with fail
      with_reducible refine (A3.out _).mono ?_
      rintro e w1 ⟨rfl, hb⟩
      have T1 := Lib.hid ((H.out.step hb).alloc #[.int .i64 r0_3, .int .i64 r1_3, .int .i64 r2_3, .int .i64 r3_3] 25)
      clear hb H h0 h1 h2 h3 h4 j0 j1 j2 j3 j4
      go_upto_region 7 with fail
      generalize w1.alloc (.cells #[.int .i64 r0_3, .int .i64 r1_3, .int .i64 r2_3, .int .i64 r3_3] 25) = yy1 at *
      generalize w1.heap.size = ga at *
      obtain ⟨k0, k1, k2, k3, k4⟩ := Has.c4 (g := w.heap.size + 1 + 1) (x := .int .i64 a') (y := .int .i64 b') (z := .int .i64 c') (u := .int .i64 d') (t := 25) T1.out (by simp)
      obtain ⟨l0, l1, l2, l3, l4⟩ := Has.c4 (g := w.heap.size + 1 + 1 + 1) (x := .int .i64 p') (y := .int .i64 q') (z := .int .i64 r') (u := .int .i64 s') (t := 25) T1.out (by simp)
      go_wp2_with fail
      with_reducible refine (B3.out _).mono ?_
      rintro e w2 ⟨rfl, hb⟩
      have T2 := Lib.hid ((T1.out.step hb).alloc #[.int .i64 s0_3, .int .i64 s1_3, .int .i64 s2_3, .int .i64 s3_3] 25)
      clear hb T1 k0 k1 k2 k3 k4 l0 l1 l2 l3 l4
      go_upto_region 8 with fail
      generalize w2.alloc (.cells #[.int .i64 s0_3, .int .i64 s1_3, .int .i64 s2_3, .int .i64 s3_3] 25) = yy2 at *
      generalize w2.heap.size = gb at *
      obtain ⟨h0, h1, h2, h3, h4⟩ := Has.c4 (g := ga) (x := .int .i64 r0_3) (y := .int .i64 r1_3) (z := .int .i64 r2_3) (u := .int .i64 r3_3) (t := 25) T2.out (by simp)
      obtain ⟨j0, j1, j2, j3, j4⟩ := Has.c4 (g := gb) (x := .int .i64 s0_3) (y := .int .i64 s1_3) (z := .int .i64 s2_3) (u := .int .i64 s3_3) (t := 25) T2.out (by simp)
      by_cases he : e3 = 0
      · by_cases hf : f3 = 0
        · have CK := Lib.hid fun w => C3.out w he hf
          subst he hf
          go_wp2_with fail
          with_reducible refine (CK.out _).mono ?_
          rintro e w3 ⟨rfl, hb⟩
          have T3 := Lib.hid (T2.out.step hb)
          clear hb T2 h0 h1 h2 h3 h4 j0 j1 j2 j3 j4
          go_wp2_with fail
          go_roundw
          case rel => exact ⟨4, (by first | rfl | trivial), by omega, by omega, T3.out.sub (by simp)⟩
          case measure => simp [intOf]
        · obtain ⟨f26, f23⟩ := F3.out he
          subst he
          have g26 : (f3 == 26) = false := by simp [f26]
          have g23 : (f3 == 23) = false := by simp [f23]
          go_wp2_with fail
          go_roundw
          case rel => exact ⟨4, (by first | rfl | trivial), by omega, by omega, T2.out.sub (by simp)⟩
          case measure => simp [intOf]
      · skip
        go_wp2_with fail
        go_roundw
        case rel => exact ⟨4, (by first | rfl | trivial), by omega, by omega, T2.out.sub (by simp)⟩
        case measure => simp [intOf]
    · skip
      go_upto_region 11 with fail
      have hk1 : LEk w a b c d p q r s a' b' c' d' p' q' r' s' wr := LEk.mk (LE.mk H.out)
      clear H
      have h0 := hk1.out.all
      go_region_held3 (fun V => LE w a b c d p q r s a' b' c' d' p' q' r' s' V ∧ (V.cell? ⟨w.heap.size, 0, none⟩ = some (.int .i64 a) ∧ V.cell? ⟨w.heap.size, 1, none⟩ = some (.int .i64 b) ∧ V.cell? ⟨w.heap.size, 2, none⟩ = some (.int .i64 c) ∧ V.cell? ⟨w.heap.size, 3, none⟩ = some (.int .i64 d)) ∧ (V.cell? ⟨w.heap.size + 1, 0, none⟩ = some (.int .i64 p) ∧ V.cell? ⟨w.heap.size + 1, 1, none⟩ = some (.int .i64 q) ∧ V.cell? ⟨w.heap.size + 1, 2, none⟩ = some (.int .i64 r) ∧ V.cell? ⟨w.heap.size + 1, 3, none⟩ = some (.int .i64 s)) ∧ (V.cell? ⟨w.heap.size + 1 + 1, 0, none⟩ = some (.int .i64 a') ∧ V.cell? ⟨w.heap.size + 1 + 1, 1, none⟩ = some (.int .i64 b') ∧ V.cell? ⟨w.heap.size + 1 + 1, 2, none⟩ = some (.int .i64 c') ∧ V.cell? ⟨w.heap.size + 1 + 1, 3, none⟩ = some (.int .i64 d')) ∧ (V.cell? ⟨w.heap.size + 1 + 1 + 1, 0, none⟩ = some (.int .i64 p') ∧ V.cell? ⟨w.heap.size + 1 + 1 + 1, 1, none⟩ = some (.int .i64 q') ∧ V.cell? ⟨w.heap.size + 1 + 1 + 1, 2, none⟩ = some (.int .i64 r') ∧ V.cell? ⟨w.heap.size + 1 + 1 + 1, 3, none⟩ = some (.int .i64 s')))
        ((refine LE.all ?_; (with_reducible repeat (first | exact LEk.out (by assumption) | apply LE.drew))))
        (first
          | (go_at_call 24; (with_reducible first | (refine (Dmn.out _).mono ?_) | (refine (Dmm.out _).mono ?_)); rintro e w' ⟨rfl, hb⟩; (have hk := LEk.mk (LE.step hb (by (with_reducible repeat (first | exact LEk.out (by assumption) | apply LE.drew))))))
          | (go_at_call 26; (with_reducible first | (refine (Dxn.out _).mono ?_) | (refine (Dxm.out _).mono ?_)); rintro e w' ⟨rfl, hb⟩; (have hk := LEk.mk (LE.step hb (by (with_reducible repeat (first | exact LEk.out (by assumption) | apply LE.drew))))))
          | (go_at_call 22; (with_reducible first | (refine (Dhn.out _).mono ?_) | (refine (Dhm.out _).mono ?_)); rintro e w' ⟨rfl, hb⟩; (have hk := LEk.mk (LE.step hb (by (with_reducible repeat (first | exact LEk.out (by assumption) | apply LE.drew))))))
          | (go_at_call 17; (with_reducible first | (refine (Emn.out _).mono ?_) | (refine (Exn.out _).mono ?_) | (refine (Ehn.out _).mono ?_)); rintro e w' ⟨rfl, hb⟩; (have hk := LEk.mk (LE.step hb (by (with_reducible repeat (first | exact LEk.out (by assumption) | apply LE.drew))))))
          | (go_at_call 19; (with_reducible refine (AW.out _).mono ?_); rintro e w' ⟨rfl, hb⟩; (have hk := LEk.mk (LE.step hb (by (with_reducible repeat (first | exact LEk.out (by assumption) | apply LE.drew))))); (have HZ := Lib.hid hk)))
      go_wp2
      go_ret
      exact ⟨rfl, HZ.out.out.has.1⟩
set_option maxHeartbeats 4000000 in
set_option maxRecDepth 100000 in
theorem nlaw_out (a b c d p q r s a' b' c' d' p' q' r' s' : Int) (x y : Bool) (hxy : x = false ∨ (x = true ∧ y = false))
    (CU : Hid (∀ w : World, Calls Try.prog 17 #[.agg #[.int .i64 a, .int .i64 b, .int .i64 c, .int .i64 d], .agg #[.int .i64 a', .int .i64 b', .int .i64 c', .int .i64 d']] w fun e w' => e = .returned (.bool x) ∧ Below w.heap.size w w'))
    (CV : Hid (∀ w : World, Calls Try.prog 17 #[.agg #[.int .i64 p, .int .i64 q, .int .i64 r, .int .i64 s], .agg #[.int .i64 p', .int .i64 q', .int .i64 r', .int .i64 s']] w fun e w' => e = .returned (.bool y) ∧ Below w.heap.size w w'))
    (AW : Hid (∀ w : World, Calls Try.prog 19 #[] w fun e w' => e = .returned (.bool true) ∧ Below w.heap.size w w'))
    (w : World) : Calls Try.prog 8 #[.agg #[.int .i64 a, .int .i64 b, .int .i64 c, .int .i64 d], .agg #[.int .i64 p, .int .i64 q, .int .i64 r, .int .i64 s], .agg #[.int .i64 a', .int .i64 b', .int .i64 c', .int .i64 d'], .agg #[.int .i64 p', .int .i64 q', .int .i64 r', .int .i64 s']] w fun e w' => e = .returned (.bool true) ∧ Below w.heap.size w w' := by
  have T0 := Lib.hid (four0 w #[.int .i64 a, .int .i64 b, .int .i64 c, .int .i64 d] #[.int .i64 p, .int .i64 q, .int .i64 r, .int .i64 s] #[.int .i64 a', .int .i64 b', .int .i64 c', .int .i64 d'] #[.int .i64 p', .int .i64 q', .int .i64 r', .int .i64 s'] 25 25 25 25)
  rcases hxy with rfl | ⟨rfl, rfl⟩
  · go_enter Try.func8, Try.ntmps8
    go_upto_region 1 with fail
    generalize (((w.alloc (.cells #[.int .i64 a, .int .i64 b, .int .i64 c, .int .i64 d] 25)).alloc (.cells #[.int .i64 p, .int .i64 q, .int .i64 r, .int .i64 s] 25)).alloc (.cells #[.int .i64 a', .int .i64 b', .int .i64 c', .int .i64 d'] 25)).alloc (.cells #[.int .i64 p', .int .i64 q', .int .i64 r', .int .i64 s'] 25) = W0 at *
    obtain ⟨h0, h1, h2, h3, h4⟩ := Has.c4 (g := w.heap.size) (x := .int .i64 a) (y := .int .i64 b) (z := .int .i64 c) (u := .int .i64 d) (t := 25) T0.out (by simp)
    obtain ⟨j0, j1, j2, j3, j4⟩ := Has.c4 (g := w.heap.size + 1) (x := .int .i64 p) (y := .int .i64 q) (z := .int .i64 r) (u := .int .i64 s) (t := 25) T0.out (by simp)
    obtain ⟨k0, k1, k2, k3, k4⟩ := Has.c4 (g := w.heap.size + 1 + 1) (x := .int .i64 a') (y := .int .i64 b') (z := .int .i64 c') (u := .int .i64 d') (t := 25) T0.out (by simp)
    obtain ⟨l0, l1, l2, l3, l4⟩ := Has.c4 (g := w.heap.size + 1 + 1 + 1) (x := .int .i64 p') (y := .int .i64 q') (z := .int .i64 r') (u := .int .i64 s') (t := 25) T0.out (by simp)
    go_wp2_with fail
    with_reducible refine ((CU.out) _).mono ?_
    rintro e w1 ⟨rfl, hb⟩
    have T1 := Lib.hid (T0.out.step hb)
    clear hb T0 CU h0 h1 h2 h3 h4 j0 j1 j2 j3 j4 k0 k1 k2 k3 k4 l0 l1 l2 l3 l4
    obtain ⟨h0, h1, h2, h3, h4⟩ := Has.c4 (g := w.heap.size) (x := .int .i64 a) (y := .int .i64 b) (z := .int .i64 c) (u := .int .i64 d) (t := 25) T1.out (by simp)
    obtain ⟨j0, j1, j2, j3, j4⟩ := Has.c4 (g := w.heap.size + 1) (x := .int .i64 p) (y := .int .i64 q) (z := .int .i64 r) (u := .int .i64 s) (t := 25) T1.out (by simp)
    obtain ⟨k0, k1, k2, k3, k4⟩ := Has.c4 (g := w.heap.size + 1 + 1) (x := .int .i64 a') (y := .int .i64 b') (z := .int .i64 c') (u := .int .i64 d') (t := 25) T1.out (by simp)
    obtain ⟨l0, l1, l2, l3, l4⟩ := Has.c4 (g := w.heap.size + 1 + 1 + 1) (x := .int .i64 p') (y := .int .i64 q') (z := .int .i64 r') (u := .int .i64 s') (t := 25) T1.out (by simp)
    go_wp2_with fail
    with_reducible refine ((AW.out) _).mono ?_
    rintro e w3 ⟨rfl, hb⟩
    have T3 := Lib.hid (T1.out.step hb)
    clear hb T1 AW h0 h1 h2 h3 h4 j0 j1 j2 j3 j4 k0 k1 k2 k3 k4 l0 l1 l2 l3 l4
    go_wp2
    go_ret
    exact ⟨rfl, T3.out.1⟩
  · go_enter Try.func8, Try.ntmps8
    go_upto_region 1 with fail
    generalize (((w.alloc (.cells #[.int .i64 a, .int .i64 b, .int .i64 c, .int .i64 d] 25)).alloc (.cells #[.int .i64 p, .int .i64 q, .int .i64 r, .int .i64 s] 25)).alloc (.cells #[.int .i64 a', .int .i64 b', .int .i64 c', .int .i64 d'] 25)).alloc (.cells #[.int .i64 p', .int .i64 q', .int .i64 r', .int .i64 s'] 25) = W0 at *
    obtain ⟨h0, h1, h2, h3, h4⟩ := Has.c4 (g := w.heap.size) (x := .int .i64 a) (y := .int .i64 b) (z := .int .i64 c) (u := .int .i64 d) (t := 25) T0.out (by simp)
    obtain ⟨j0, j1, j2, j3, j4⟩ := Has.c4 (g := w.heap.size + 1) (x := .int .i64 p) (y := .int .i64 q) (z := .int .i64 r) (u := .int .i64 s) (t := 25) T0.out (by simp)
    obtain ⟨k0, k1, k2, k3, k4⟩ := Has.c4 (g := w.heap.size + 1 + 1) (x := .int .i64 a') (y := .int .i64 b') (z := .int .i64 c') (u := .int .i64 d') (t := 25) T0.out (by simp)
    obtain ⟨l0, l1, l2, l3, l4⟩ := Has.c4 (g := w.heap.size + 1 + 1 + 1) (x := .int .i64 p') (y := .int .i64 q') (z := .int .i64 r') (u := .int .i64 s') (t := 25) T0.out (by simp)
    go_wp2_with fail
    with_reducible refine ((CU.out) _).mono ?_
    rintro e w1 ⟨rfl, hb⟩
    have T1 := Lib.hid (T0.out.step hb)
    clear hb T0 CU h0 h1 h2 h3 h4 j0 j1 j2 j3 j4 k0 k1 k2 k3 k4 l0 l1 l2 l3 l4
    obtain ⟨h0, h1, h2, h3, h4⟩ := Has.c4 (g := w.heap.size) (x := .int .i64 a) (y := .int .i64 b) (z := .int .i64 c) (u := .int .i64 d) (t := 25) T1.out (by simp)
    obtain ⟨j0, j1, j2, j3, j4⟩ := Has.c4 (g := w.heap.size + 1) (x := .int .i64 p) (y := .int .i64 q) (z := .int .i64 r) (u := .int .i64 s) (t := 25) T1.out (by simp)
    obtain ⟨k0, k1, k2, k3, k4⟩ := Has.c4 (g := w.heap.size + 1 + 1) (x := .int .i64 a') (y := .int .i64 b') (z := .int .i64 c') (u := .int .i64 d') (t := 25) T1.out (by simp)
    obtain ⟨l0, l1, l2, l3, l4⟩ := Has.c4 (g := w.heap.size + 1 + 1 + 1) (x := .int .i64 p') (y := .int .i64 q') (z := .int .i64 r') (u := .int .i64 s') (t := 25) T1.out (by simp)
    go_wp2_with fail
    with_reducible refine ((CV.out) _).mono ?_
    rintro e w2 ⟨rfl, hb⟩
    have T2 := Lib.hid (T1.out.step hb)
    clear hb T1 CV h0 h1 h2 h3 h4 j0 j1 j2 j3 j4 k0 k1 k2 k3 k4 l0 l1 l2 l3 l4
    go_wp2_with fail
    with_reducible refine ((AW.out) _).mono ?_
    rintro e w3 ⟨rfl, hb⟩
    have T3 := Lib.hid (T2.out.step hb)
    clear hb T2 AW
    go_wp2
    go_ret
    exact ⟨rfl, T3.out.1⟩
end Go.Proofs.Ytbiegbnncnjnmaa.Iv
