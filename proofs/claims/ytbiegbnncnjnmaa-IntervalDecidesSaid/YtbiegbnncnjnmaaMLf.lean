/- The walk of the law IntervalElements. -/
import Derived.Test.YtbiegbnncnjnmaaMLe
set_option linter.unusedVariables false
set_option linter.unusedSimpArgs false
namespace Go.Proofs.Ytbiegbnncnjnmaa.Iv
open Go.RowKit
open Go.Proofs.Ytbiegbnncnjnmaa.Pro

/-- The four arguments and two fractions stand. -/
structure LF (w : World) (ga gb : Nat) (a b c d p q r s f g t v l0 l1 m0 m1 : Int) (V : World) : Prop where
  has : Has w [(gb, #[.int .i64 m0, .int .i64 m1], 23), (ga, #[.int .i64 l0, .int .i64 l1], 23), (w.heap.size + 1 + 1 + 1, #[.int .i64 t, .int .i64 v], 23), (w.heap.size + 1 + 1, #[.int .i64 f, .int .i64 g], 23), (w.heap.size + 1, #[.int .i64 p, .int .i64 q, .int .i64 r, .int .i64 s], 25), (w.heap.size, #[.int .i64 a, .int .i64 b, .int .i64 c, .int .i64 d], 25)] V
structure LFk (w : World) (ga gb : Nat) (a b c d p q r s f g t v l0 l1 m0 m1 : Int) (V : World) : Prop where
  out : LF w ga gb a b c d p q r s f g t v l0 l1 m0 m1 V
theorem LF.drew {w V : World} {ga gb : Nat} {a b c d p q r s f g t v l0 l1 m0 m1 : Int} (h : LF w ga gb a b c d p q r s f g t v l0 l1 m0 m1 V) : LF w ga gb a b c d p q r s f g t v l0 l1 m0 m1 V.drew := ⟨h.has.drew⟩
theorem LF.step {w V V2 : World} {ga gb : Nat} {a b c d p q r s f g t v l0 l1 m0 m1 : Int} (hb : Below V.heap.size V V2) (h : LF w ga gb a b c d p q r s f g t v l0 l1 m0 m1 V) : LF w ga gb a b c d p q r s f g t v l0 l1 m0 m1 V2 := ⟨h.has.step hb⟩
theorem LF.all {w V : World} {ga gb : Nat} {a b c d p q r s f g t v l0 l1 m0 m1 : Int} (h : LF w ga gb a b c d p q r s f g t v l0 l1 m0 m1 V) : LF w ga gb a b c d p q r s f g t v l0 l1 m0 m1 V ∧ (V.cell? ⟨w.heap.size, 0, none⟩ = some (.int .i64 a) ∧ V.cell? ⟨w.heap.size, 1, none⟩ = some (.int .i64 b) ∧ V.cell? ⟨w.heap.size, 2, none⟩ = some (.int .i64 c) ∧ V.cell? ⟨w.heap.size, 3, none⟩ = some (.int .i64 d)) ∧ (V.cell? ⟨w.heap.size + 1, 0, none⟩ = some (.int .i64 p) ∧ V.cell? ⟨w.heap.size + 1, 1, none⟩ = some (.int .i64 q) ∧ V.cell? ⟨w.heap.size + 1, 2, none⟩ = some (.int .i64 r) ∧ V.cell? ⟨w.heap.size + 1, 3, none⟩ = some (.int .i64 s)) ∧ (V.cell? ⟨w.heap.size + 1 + 1, 0, none⟩ = some (.int .i64 f) ∧ V.cell? ⟨w.heap.size + 1 + 1, 1, none⟩ = some (.int .i64 g)) ∧ (V.cell? ⟨w.heap.size + 1 + 1 + 1, 0, none⟩ = some (.int .i64 t) ∧ V.cell? ⟨w.heap.size + 1 + 1 + 1, 1, none⟩ = some (.int .i64 v)) ∧ (V.cell? ⟨ga, 0, none⟩ = some (.int .i64 l0) ∧ V.cell? ⟨ga, 1, none⟩ = some (.int .i64 l1)) ∧ (V.cell? ⟨gb, 0, none⟩ = some (.int .i64 m0) ∧ V.cell? ⟨gb, 1, none⟩ = some (.int .i64 m1)) :=
  have h0 := Has.c4 (g := w.heap.size) (x := .int .i64 a) (y := .int .i64 b) (z := .int .i64 c) (u := .int .i64 d) (t := 25) h.has (by simp)
  have h1 := Has.c4 (g := w.heap.size + 1) (x := .int .i64 p) (y := .int .i64 q) (z := .int .i64 r) (u := .int .i64 s) (t := 25) h.has (by simp)
  have h2 := cells2 (h.has.row (b := w.heap.size + 1 + 1) (cs := #[.int .i64 f, .int .i64 g]) (t := 23) (by simp))
  have h3 := cells2 (h.has.row (b := w.heap.size + 1 + 1 + 1) (cs := #[.int .i64 t, .int .i64 v]) (t := 23) (by simp))
  have h4 := cells2 (h.has.row (b := ga) (cs := #[.int .i64 l0, .int .i64 l1]) (t := 23) (by simp))
  have h5 := cells2 (h.has.row (b := gb) (cs := #[.int .i64 m0, .int .i64 m1]) (t := 23) (by simp))
  ⟨h, ⟨h0.1, h0.2.1, h0.2.2.1, h0.2.2.2.1⟩, ⟨h1.1, h1.2.1, h1.2.2.1, h1.2.2.2.1⟩, h2, h3, h4, h5⟩
set_option maxHeartbeats 4000000 in
set_option maxRecDepth 100000 in
theorem elaw_raw (a b c d p q r s f g t v r0_0 r1_0 r2_0 r3_0 e0 s0_0 s1_0 er0 r0_1 r1_1 r2_1 r3_1 e1 s0_1 s1_1 er1 r0_2 r1_2 r2_2 r3_2 e2 s0_2 s1_2 er2 r0_3 r1_3 r2_3 r3_3 e3 s0_3 s1_3 er3 l0 l1 m0 m1 mn0 mn1 mn2 mn3 mx0 mx1 mx2 mx3 hu0 hu1 hu2 hu3 : Int)
    (IX : Hid (∀ w : World, Calls Try.prog 30 #[.agg #[.int .i64 f, .int .i64 g], .agg #[.int .i64 a, .int .i64 b, .int .i64 c, .int .i64 d]] w fun e w' => e = .returned (.bool true) ∧ Below w.heap.size w w'))
    (IY : Hid (∀ w : World, Calls Try.prog 30 #[.agg #[.int .i64 t, .int .i64 v], .agg #[.int .i64 p, .int .i64 q, .int .i64 r, .int .i64 s]] w fun e w' => e = .returned (.bool true) ∧ Below w.heap.size w w'))
    (A0 : Hid (∀ w : World, Calls Try.prog 20 #[.int .i64 0, .agg #[.int .i64 a, .int .i64 b, .int .i64 c, .int .i64 d], .agg #[.int .i64 p, .int .i64 q, .int .i64 r, .int .i64 s]] w fun e w' => e = .returned (.tuple #[.agg #[.int .i64 r0_0, .int .i64 r1_0, .int .i64 r2_0, .int .i64 r3_0], .int .i64 e0]) ∧ Below w.heap.size w w'))
    (S0 : Hid (∀ w : World, Calls Try.prog 31 #[.int .i64 0, .agg #[.int .i64 f, .int .i64 g], .agg #[.int .i64 t, .int .i64 v]] w fun e w' => e = .returned (.tuple #[.agg #[.int .i64 s0_0, .int .i64 s1_0], .int .i64 er0]) ∧ Below w.heap.size w w'))
    (C0 : Hid (∀ w : World, e0 = 0 → er0 = 0 → Calls Try.prog 30 #[.agg #[.int .i64 s0_0, .int .i64 s1_0], .agg #[.int .i64 r0_0, .int .i64 r1_0, .int .i64 r2_0, .int .i64 r3_0]] w fun e w' => e = .returned (.bool true) ∧ Below w.heap.size w w'))
    (A1 : Hid (∀ w : World, Calls Try.prog 20 #[.int .i64 1, .agg #[.int .i64 a, .int .i64 b, .int .i64 c, .int .i64 d], .agg #[.int .i64 p, .int .i64 q, .int .i64 r, .int .i64 s]] w fun e w' => e = .returned (.tuple #[.agg #[.int .i64 r0_1, .int .i64 r1_1, .int .i64 r2_1, .int .i64 r3_1], .int .i64 e1]) ∧ Below w.heap.size w w'))
    (S1 : Hid (∀ w : World, Calls Try.prog 31 #[.int .i64 1, .agg #[.int .i64 f, .int .i64 g], .agg #[.int .i64 t, .int .i64 v]] w fun e w' => e = .returned (.tuple #[.agg #[.int .i64 s0_1, .int .i64 s1_1], .int .i64 er1]) ∧ Below w.heap.size w w'))
    (C1 : Hid (∀ w : World, e1 = 0 → er1 = 0 → Calls Try.prog 30 #[.agg #[.int .i64 s0_1, .int .i64 s1_1], .agg #[.int .i64 r0_1, .int .i64 r1_1, .int .i64 r2_1, .int .i64 r3_1]] w fun e w' => e = .returned (.bool true) ∧ Below w.heap.size w w'))
    (A2 : Hid (∀ w : World, Calls Try.prog 20 #[.int .i64 2, .agg #[.int .i64 a, .int .i64 b, .int .i64 c, .int .i64 d], .agg #[.int .i64 p, .int .i64 q, .int .i64 r, .int .i64 s]] w fun e w' => e = .returned (.tuple #[.agg #[.int .i64 r0_2, .int .i64 r1_2, .int .i64 r2_2, .int .i64 r3_2], .int .i64 e2]) ∧ Below w.heap.size w w'))
    (S2 : Hid (∀ w : World, Calls Try.prog 31 #[.int .i64 2, .agg #[.int .i64 f, .int .i64 g], .agg #[.int .i64 t, .int .i64 v]] w fun e w' => e = .returned (.tuple #[.agg #[.int .i64 s0_2, .int .i64 s1_2], .int .i64 er2]) ∧ Below w.heap.size w w'))
    (C2 : Hid (∀ w : World, e2 = 0 → er2 = 0 → Calls Try.prog 30 #[.agg #[.int .i64 s0_2, .int .i64 s1_2], .agg #[.int .i64 r0_2, .int .i64 r1_2, .int .i64 r2_2, .int .i64 r3_2]] w fun e w' => e = .returned (.bool true) ∧ Below w.heap.size w w'))
    (A3 : Hid (∀ w : World, Calls Try.prog 20 #[.int .i64 3, .agg #[.int .i64 a, .int .i64 b, .int .i64 c, .int .i64 d], .agg #[.int .i64 p, .int .i64 q, .int .i64 r, .int .i64 s]] w fun e w' => e = .returned (.tuple #[.agg #[.int .i64 r0_3, .int .i64 r1_3, .int .i64 r2_3, .int .i64 r3_3], .int .i64 e3]) ∧ Below w.heap.size w w'))
    (S3 : Hid (∀ w : World, Calls Try.prog 31 #[.int .i64 3, .agg #[.int .i64 f, .int .i64 g], .agg #[.int .i64 t, .int .i64 v]] w fun e w' => e = .returned (.tuple #[.agg #[.int .i64 s0_3, .int .i64 s1_3], .int .i64 er3]) ∧ Below w.heap.size w w'))
    (C3 : Hid (∀ w : World, e3 = 0 → er3 = 0 → Calls Try.prog 30 #[.agg #[.int .i64 s0_3, .int .i64 s1_3], .agg #[.int .i64 r0_3, .int .i64 r1_3, .int .i64 r2_3, .int .i64 r3_3]] w fun e w' => e = .returned (.bool true) ∧ Below w.heap.size w w'))
    (D3 : Hid (e3 = 0 → ¬ er3 = 26))
    (LS : Hid (∀ w : World, Calls Try.prog 32 #[.agg #[.int .i64 f, .int .i64 g], .agg #[.int .i64 t, .int .i64 v]] w fun e w' => e = .returned (.tuple #[.agg #[.int .i64 l0, .int .i64 l1], .agg #[.int .i64 m0, .int .i64 m1]]) ∧ Below w.heap.size w w'))
    (MN : Hid (∀ w : World, Calls Try.prog 24 #[.agg #[.int .i64 a, .int .i64 b, .int .i64 c, .int .i64 d], .agg #[.int .i64 p, .int .i64 q, .int .i64 r, .int .i64 s]] w fun e w' => e = .returned (.agg #[.int .i64 mn0, .int .i64 mn1, .int .i64 mn2, .int .i64 mn3]) ∧ Below w.heap.size w w'))
    (MX : Hid (∀ w : World, Calls Try.prog 26 #[.agg #[.int .i64 a, .int .i64 b, .int .i64 c, .int .i64 d], .agg #[.int .i64 p, .int .i64 q, .int .i64 r, .int .i64 s]] w fun e w' => e = .returned (.agg #[.int .i64 mx0, .int .i64 mx1, .int .i64 mx2, .int .i64 mx3]) ∧ Below w.heap.size w w'))
    (HU : Hid (∀ w : World, Calls Try.prog 22 #[.agg #[.int .i64 a, .int .i64 b, .int .i64 c, .int .i64 d], .agg #[.int .i64 p, .int .i64 q, .int .i64 r, .int .i64 s]] w fun e w' => e = .returned (.agg #[.int .i64 hu0, .int .i64 hu1, .int .i64 hu2, .int .i64 hu3]) ∧ Below w.heap.size w w'))
    (J1 : Hid (∀ w : World, Calls Try.prog 30 #[.agg #[.int .i64 l0, .int .i64 l1], .agg #[.int .i64 mn0, .int .i64 mn1, .int .i64 mn2, .int .i64 mn3]] w fun e w' => e = .returned (.bool true) ∧ Below w.heap.size w w'))
    (J2 : Hid (∀ w : World, Calls Try.prog 30 #[.agg #[.int .i64 m0, .int .i64 m1], .agg #[.int .i64 mx0, .int .i64 mx1, .int .i64 mx2, .int .i64 mx3]] w fun e w' => e = .returned (.bool true) ∧ Below w.heap.size w w'))
    (J3 : Hid (∀ w : World, Calls Try.prog 30 #[.agg #[.int .i64 f, .int .i64 g], .agg #[.int .i64 hu0, .int .i64 hu1, .int .i64 hu2, .int .i64 hu3]] w fun e w' => e = .returned (.bool true) ∧ Below w.heap.size w w'))
    (J4 : Hid (∀ w : World, Calls Try.prog 30 #[.agg #[.int .i64 t, .int .i64 v], .agg #[.int .i64 hu0, .int .i64 hu1, .int .i64 hu2, .int .i64 hu3]] w fun e w' => e = .returned (.bool true) ∧ Below w.heap.size w w'))
    (AW : Hid (∀ w : World, Calls Try.prog 19 #[] w fun e w' => e = .returned (.bool true) ∧ Below w.heap.size w w'))
    (w : World) : Calls Try.prog 6 #[.agg #[.int .i64 a, .int .i64 b, .int .i64 c, .int .i64 d], .agg #[.int .i64 p, .int .i64 q, .int .i64 r, .int .i64 s], .agg #[.int .i64 f, .int .i64 g], .agg #[.int .i64 t, .int .i64 v]] w fun e w' => e = .returned (.bool true) ∧ Below w.heap.size w w' := by
  have T0 := Lib.hid (four0 w #[.int .i64 a, .int .i64 b, .int .i64 c, .int .i64 d] #[.int .i64 p, .int .i64 q, .int .i64 r, .int .i64 s] #[.int .i64 f, .int .i64 g] #[.int .i64 t, .int .i64 v] 25 25 23 23)
  go_enter Try.func6, Try.ntmps6
  go_upto_region 1 with fail
  generalize (((w.alloc (.cells #[.int .i64 a, .int .i64 b, .int .i64 c, .int .i64 d] 25)).alloc (.cells #[.int .i64 p, .int .i64 q, .int .i64 r, .int .i64 s] 25)).alloc (.cells #[.int .i64 f, .int .i64 g] 23)).alloc (.cells #[.int .i64 t, .int .i64 v] 23) = W0 at *
  obtain ⟨h0, h1, h2, h3, h4⟩ := Has.c4 (g := w.heap.size) (x := .int .i64 a) (y := .int .i64 b) (z := .int .i64 c) (u := .int .i64 d) (t := 25) T0.out (by simp)
  obtain ⟨j0, j1, j2, j3, j4⟩ := Has.c4 (g := w.heap.size + 1) (x := .int .i64 p) (y := .int .i64 q) (z := .int .i64 r) (u := .int .i64 s) (t := 25) T0.out (by simp)
  obtain ⟨kk0, kk1, kk4⟩ := Has.c2 (g := w.heap.size + 1 + 1) (x := .int .i64 f) (y := .int .i64 g) (t := 23) T0.out (by simp)
  obtain ⟨lk0, lk1, lk4⟩ := Has.c2 (g := w.heap.size + 1 + 1 + 1) (x := .int .i64 t) (y := .int .i64 v) (t := 23) T0.out (by simp)
  go_wp2_with fail
  with_reducible refine ((IX.out) _).mono ?_
  rintro e w1 ⟨rfl, hb⟩
  have T1 := Lib.hid (T0.out.step hb)
  clear hb T0 IX h0 h1 h2 h3 h4 j0 j1 j2 j3 j4 kk0 kk1 kk4 lk0 lk1 lk4
  obtain ⟨h0, h1, h2, h3, h4⟩ := Has.c4 (g := w.heap.size) (x := .int .i64 a) (y := .int .i64 b) (z := .int .i64 c) (u := .int .i64 d) (t := 25) T1.out (by simp)
  obtain ⟨j0, j1, j2, j3, j4⟩ := Has.c4 (g := w.heap.size + 1) (x := .int .i64 p) (y := .int .i64 q) (z := .int .i64 r) (u := .int .i64 s) (t := 25) T1.out (by simp)
  obtain ⟨kk0, kk1, kk4⟩ := Has.c2 (g := w.heap.size + 1 + 1) (x := .int .i64 f) (y := .int .i64 g) (t := 23) T1.out (by simp)
  obtain ⟨lk0, lk1, lk4⟩ := Has.c2 (g := w.heap.size + 1 + 1 + 1) (x := .int .i64 t) (y := .int .i64 v) (t := 23) T1.out (by simp)
  go_wp2_with fail
  with_reducible refine ((IY.out) _).mono ?_
  rintro e w2 ⟨rfl, hb⟩
  have T2 := Lib.hid (T1.out.step hb)
  clear hb T1 IY h0 h1 h2 h3 h4 j0 j1 j2 j3 j4 kk0 kk1 kk4 lk0 lk1 lk4
  go_wp2_with fail
  go_loopw [27] (fun vi wr => ∃ k : Int, vi = .int .i64 k ∧ 0 ≤ k ∧ k ≤ 4 ∧ Hid (Has w [(w.heap.size + 1 + 1 + 1, #[.int .i64 t, .int .i64 v], 23), (w.heap.size + 1 + 1, #[.int .i64 f, .int .i64 g], 23), (w.heap.size + 1, #[.int .i64 p, .int .i64 q, .int .i64 r, .int .i64 s], 25), (w.heap.size, #[.int .i64 a, .int .i64 b, .int .i64 c, .int .i64 d], 25)] wr)) (fun vi _ => (4 - intOf vi).toNat)
  case atStart => exact ⟨0, rfl, by omega, by omega, T2⟩
  case round =>
    clear T2
    obtain ⟨k, rfl, hk0, hk4, H⟩ := hrel
    have hk : k = 0 ∨ k = 1 ∨ k = 2 ∨ k = 3 ∨ k = 4 := by omega
    clear hk0 hk4
    rcases hk with rfl | rfl | rfl | rfl | rfl
    · skip
      obtain ⟨h0, h1, h2, h3, h4⟩ := Has.c4 (g := w.heap.size) (x := .int .i64 a) (y := .int .i64 b) (z := .int .i64 c) (u := .int .i64 d) (t := 25) H.out (by simp)
      obtain ⟨j0, j1, j2, j3, j4⟩ := Has.c4 (g := w.heap.size + 1) (x := .int .i64 p) (y := .int .i64 q) (z := .int .i64 r) (u := .int .i64 s) (t := 25) H.out (by simp)
      go_wp2_with fail
      with_reducible refine (A0.out _).mono ?_
      rintro e w1 ⟨rfl, hb⟩
      have T1 := Lib.hid ((H.out.step hb).alloc #[.int .i64 r0_0, .int .i64 r1_0, .int .i64 r2_0, .int .i64 r3_0] 25)
      clear hb H h0 h1 h2 h3 h4 j0 j1 j2 j3 j4
      go_upto_region 7 with fail
      generalize w1.alloc (.cells #[.int .i64 r0_0, .int .i64 r1_0, .int .i64 r2_0, .int .i64 r3_0] 25) = yy1 at *
      generalize w1.heap.size = ga at *
      obtain ⟨kk0, kk1, kk4⟩ := Has.c2 (g := w.heap.size + 1 + 1) (x := .int .i64 f) (y := .int .i64 g) (t := 23) T1.out (by simp)
      obtain ⟨lk0, lk1, lk4⟩ := Has.c2 (g := w.heap.size + 1 + 1 + 1) (x := .int .i64 t) (y := .int .i64 v) (t := 23) T1.out (by simp)
      go_wp2_with fail
      with_reducible refine (S0.out _).mono ?_
      rintro e w2 ⟨rfl, hb⟩
      have T2 := Lib.hid ((T1.out.step hb).alloc #[.int .i64 s0_0, .int .i64 s1_0] 23)
      clear hb T1 kk0 kk1 kk4 lk0 lk1 lk4
      go_upto_region 8 with fail
      generalize w2.alloc (.cells #[.int .i64 s0_0, .int .i64 s1_0] 23) = yy2 at *
      generalize w2.heap.size = gb at *
      obtain ⟨h0, h1, h2, h3, h4⟩ := Has.c4 (g := ga) (x := .int .i64 r0_0) (y := .int .i64 r1_0) (z := .int .i64 r2_0) (u := .int .i64 r3_0) (t := 25) T2.out (by simp)
      obtain ⟨kk0, kk1, kk4⟩ := Has.c2 (g := gb) (x := .int .i64 s0_0) (y := .int .i64 s1_0) (t := 23) T2.out (by simp)
      by_cases he : e0 = 0
      · by_cases hf : er0 = 0
        · have CK := Lib.hid fun w => C0.out w he hf
          subst he hf
          go_wp2_with fail
          with_reducible refine (CK.out _).mono ?_
          rintro e w3 ⟨rfl, hb⟩
          have T3 := Lib.hid (T2.out.step hb)
          clear hb T2 h0 h1 h2 h3 h4 kk0 kk1 kk4
          go_wp2_with fail
          go_roundw
          case rel => exact ⟨1, (by first | rfl | trivial), by omega, by omega, T3.out.sub (by simp)⟩
          case measure => simp [intOf]
        · skip
          subst he
          go_wp2_with fail
          go_roundw
          case rel => exact ⟨1, (by first | rfl | trivial), by omega, by omega, T2.out.sub (by simp)⟩
          case measure => simp [intOf]
      · skip
        go_wp2_with fail
        go_roundw
        case rel => exact ⟨1, (by first | rfl | trivial), by omega, by omega, T2.out.sub (by simp)⟩
        case measure => simp [intOf]
    · skip
      obtain ⟨h0, h1, h2, h3, h4⟩ := Has.c4 (g := w.heap.size) (x := .int .i64 a) (y := .int .i64 b) (z := .int .i64 c) (u := .int .i64 d) (t := 25) H.out (by simp)
      obtain ⟨j0, j1, j2, j3, j4⟩ := Has.c4 (g := w.heap.size + 1) (x := .int .i64 p) (y := .int .i64 q) (z := .int .i64 r) (u := .int .i64 s) (t := 25) H.out (by simp)
      go_wp2_with fail
      with_reducible refine (A1.out _).mono ?_
      rintro e w1 ⟨rfl, hb⟩
      have T1 := Lib.hid ((H.out.step hb).alloc #[.int .i64 r0_1, .int .i64 r1_1, .int .i64 r2_1, .int .i64 r3_1] 25)
      clear hb H h0 h1 h2 h3 h4 j0 j1 j2 j3 j4
      go_upto_region 7 with fail
      generalize w1.alloc (.cells #[.int .i64 r0_1, .int .i64 r1_1, .int .i64 r2_1, .int .i64 r3_1] 25) = yy1 at *
      generalize w1.heap.size = ga at *
      obtain ⟨kk0, kk1, kk4⟩ := Has.c2 (g := w.heap.size + 1 + 1) (x := .int .i64 f) (y := .int .i64 g) (t := 23) T1.out (by simp)
      obtain ⟨lk0, lk1, lk4⟩ := Has.c2 (g := w.heap.size + 1 + 1 + 1) (x := .int .i64 t) (y := .int .i64 v) (t := 23) T1.out (by simp)
      go_wp2_with fail
      with_reducible refine (S1.out _).mono ?_
      rintro e w2 ⟨rfl, hb⟩
      have T2 := Lib.hid ((T1.out.step hb).alloc #[.int .i64 s0_1, .int .i64 s1_1] 23)
      clear hb T1 kk0 kk1 kk4 lk0 lk1 lk4
      go_upto_region 8 with fail
      generalize w2.alloc (.cells #[.int .i64 s0_1, .int .i64 s1_1] 23) = yy2 at *
      generalize w2.heap.size = gb at *
      obtain ⟨h0, h1, h2, h3, h4⟩ := Has.c4 (g := ga) (x := .int .i64 r0_1) (y := .int .i64 r1_1) (z := .int .i64 r2_1) (u := .int .i64 r3_1) (t := 25) T2.out (by simp)
      obtain ⟨kk0, kk1, kk4⟩ := Has.c2 (g := gb) (x := .int .i64 s0_1) (y := .int .i64 s1_1) (t := 23) T2.out (by simp)
      by_cases he : e1 = 0
      · by_cases hf : er1 = 0
        · have CK := Lib.hid fun w => C1.out w he hf
          subst he hf
          go_wp2_with fail
          with_reducible refine (CK.out _).mono ?_
          rintro e w3 ⟨rfl, hb⟩
          have T3 := Lib.hid (T2.out.step hb)
          clear hb T2 h0 h1 h2 h3 h4 kk0 kk1 kk4
          go_wp2_with fail
          go_roundw
          case rel => exact ⟨2, (by first | rfl | trivial), by omega, by omega, T3.out.sub (by simp)⟩
          case measure => simp [intOf]
        · skip
          subst he
          go_wp2_with fail
          go_roundw
          case rel => exact ⟨2, (by first | rfl | trivial), by omega, by omega, T2.out.sub (by simp)⟩
          case measure => simp [intOf]
      · skip
        go_wp2_with fail
        go_roundw
        case rel => exact ⟨2, (by first | rfl | trivial), by omega, by omega, T2.out.sub (by simp)⟩
        case measure => simp [intOf]
    · skip
      obtain ⟨h0, h1, h2, h3, h4⟩ := Has.c4 (g := w.heap.size) (x := .int .i64 a) (y := .int .i64 b) (z := .int .i64 c) (u := .int .i64 d) (t := 25) H.out (by simp)
      obtain ⟨j0, j1, j2, j3, j4⟩ := Has.c4 (g := w.heap.size + 1) (x := .int .i64 p) (y := .int .i64 q) (z := .int .i64 r) (u := .int .i64 s) (t := 25) H.out (by simp)
      go_wp2_with fail
      with_reducible refine (A2.out _).mono ?_
      rintro e w1 ⟨rfl, hb⟩
      have T1 := Lib.hid ((H.out.step hb).alloc #[.int .i64 r0_2, .int .i64 r1_2, .int .i64 r2_2, .int .i64 r3_2] 25)
      clear hb H h0 h1 h2 h3 h4 j0 j1 j2 j3 j4
      go_upto_region 7 with fail
      generalize w1.alloc (.cells #[.int .i64 r0_2, .int .i64 r1_2, .int .i64 r2_2, .int .i64 r3_2] 25) = yy1 at *
      generalize w1.heap.size = ga at *
      obtain ⟨kk0, kk1, kk4⟩ := Has.c2 (g := w.heap.size + 1 + 1) (x := .int .i64 f) (y := .int .i64 g) (t := 23) T1.out (by simp)
      obtain ⟨lk0, lk1, lk4⟩ := Has.c2 (g := w.heap.size + 1 + 1 + 1) (x := .int .i64 t) (y := .int .i64 v) (t := 23) T1.out (by simp)
      go_wp2_with fail
      with_reducible refine (S2.out _).mono ?_
      rintro e w2 ⟨rfl, hb⟩
      have T2 := Lib.hid ((T1.out.step hb).alloc #[.int .i64 s0_2, .int .i64 s1_2] 23)
      clear hb T1 kk0 kk1 kk4 lk0 lk1 lk4
      go_upto_region 8 with fail
      generalize w2.alloc (.cells #[.int .i64 s0_2, .int .i64 s1_2] 23) = yy2 at *
      generalize w2.heap.size = gb at *
      obtain ⟨h0, h1, h2, h3, h4⟩ := Has.c4 (g := ga) (x := .int .i64 r0_2) (y := .int .i64 r1_2) (z := .int .i64 r2_2) (u := .int .i64 r3_2) (t := 25) T2.out (by simp)
      obtain ⟨kk0, kk1, kk4⟩ := Has.c2 (g := gb) (x := .int .i64 s0_2) (y := .int .i64 s1_2) (t := 23) T2.out (by simp)
      by_cases he : e2 = 0
      · by_cases hf : er2 = 0
        · have CK := Lib.hid fun w => C2.out w he hf
          subst he hf
          go_wp2_with fail
          with_reducible refine (CK.out _).mono ?_
          rintro e w3 ⟨rfl, hb⟩
          have T3 := Lib.hid (T2.out.step hb)
          clear hb T2 h0 h1 h2 h3 h4 kk0 kk1 kk4
          go_wp2_with fail
          go_roundw
          case rel => exact ⟨3, (by first | rfl | trivial), by omega, by omega, T3.out.sub (by simp)⟩
          case measure => simp [intOf]
        · skip
          subst he
          go_wp2_with fail
          go_roundw
          case rel => exact ⟨3, (by first | rfl | trivial), by omega, by omega, T2.out.sub (by simp)⟩
          case measure => simp [intOf]
      · skip
        go_wp2_with fail
        go_roundw
        case rel => exact ⟨3, (by first | rfl | trivial), by omega, by omega, T2.out.sub (by simp)⟩
        case measure => simp [intOf]
    · skip
      obtain ⟨h0, h1, h2, h3, h4⟩ := Has.c4 (g := w.heap.size) (x := .int .i64 a) (y := .int .i64 b) (z := .int .i64 c) (u := .int .i64 d) (t := 25) H.out (by simp)
      obtain ⟨j0, j1, j2, j3, j4⟩ := Has.c4 (g := w.heap.size + 1) (x := .int .i64 p) (y := .int .i64 q) (z := .int .i64 r) (u := .int .i64 s) (t := 25) H.out (by simp)
      go_wp2_with fail
      with_reducible refine (A3.out _).mono ?_
      rintro e w1 ⟨rfl, hb⟩
      have T1 := Lib.hid ((H.out.step hb).alloc #[.int .i64 r0_3, .int .i64 r1_3, .int .i64 r2_3, .int .i64 r3_3] 25)
      clear hb H h0 h1 h2 h3 h4 j0 j1 j2 j3 j4
      go_upto_region 7 with fail
      generalize w1.alloc (.cells #[.int .i64 r0_3, .int .i64 r1_3, .int .i64 r2_3, .int .i64 r3_3] 25) = yy1 at *
      generalize w1.heap.size = ga at *
      obtain ⟨kk0, kk1, kk4⟩ := Has.c2 (g := w.heap.size + 1 + 1) (x := .int .i64 f) (y := .int .i64 g) (t := 23) T1.out (by simp)
      obtain ⟨lk0, lk1, lk4⟩ := Has.c2 (g := w.heap.size + 1 + 1 + 1) (x := .int .i64 t) (y := .int .i64 v) (t := 23) T1.out (by simp)
      go_wp2_with fail
      with_reducible refine (S3.out _).mono ?_
      rintro e w2 ⟨rfl, hb⟩
      have T2 := Lib.hid ((T1.out.step hb).alloc #[.int .i64 s0_3, .int .i64 s1_3] 23)
      clear hb T1 kk0 kk1 kk4 lk0 lk1 lk4
      go_upto_region 8 with fail
      generalize w2.alloc (.cells #[.int .i64 s0_3, .int .i64 s1_3] 23) = yy2 at *
      generalize w2.heap.size = gb at *
      obtain ⟨h0, h1, h2, h3, h4⟩ := Has.c4 (g := ga) (x := .int .i64 r0_3) (y := .int .i64 r1_3) (z := .int .i64 r2_3) (u := .int .i64 r3_3) (t := 25) T2.out (by simp)
      obtain ⟨kk0, kk1, kk4⟩ := Has.c2 (g := gb) (x := .int .i64 s0_3) (y := .int .i64 s1_3) (t := 23) T2.out (by simp)
      by_cases he : e3 = 0
      · by_cases hf : er3 = 0
        · have CK := Lib.hid fun w => C3.out w he hf
          subst he hf
          go_wp2_with fail
          with_reducible refine (CK.out _).mono ?_
          rintro e w3 ⟨rfl, hb⟩
          have T3 := Lib.hid (T2.out.step hb)
          clear hb T2 h0 h1 h2 h3 h4 kk0 kk1 kk4
          go_wp2_with fail
          go_roundw
          case rel => exact ⟨4, (by first | rfl | trivial), by omega, by omega, T3.out.sub (by simp)⟩
          case measure => simp [intOf]
        · skip
          have f26 := D3.out he
          have g26 : (er3 == 26) = false := by simp [f26]
          subst he
          go_wp2_with fail
          go_roundw
          case rel => exact ⟨4, (by first | rfl | trivial), by omega, by omega, T2.out.sub (by simp)⟩
          case measure => simp [intOf]
      · skip
        go_wp2_with fail
        go_roundw
        case rel => exact ⟨4, (by first | rfl | trivial), by omega, by omega, T2.out.sub (by simp)⟩
        case measure => simp [intOf]
    · skip
      obtain ⟨kk0, kk1, kk4⟩ := Has.c2 (g := w.heap.size + 1 + 1) (x := .int .i64 f) (y := .int .i64 g) (t := 23) H.out (by simp)
      obtain ⟨lk0, lk1, lk4⟩ := Has.c2 (g := w.heap.size + 1 + 1 + 1) (x := .int .i64 t) (y := .int .i64 v) (t := 23) H.out (by simp)
      go_wp2_with fail
      with_reducible refine (LS.out _).mono ?_
      rintro e w5 ⟨rfl, hb⟩
      have T5 := Lib.hid (((H.out.step hb).alloc #[.int .i64 l0, .int .i64 l1] 23).alloc #[.int .i64 m0, .int .i64 m1] 23)
      clear hb H kk0 kk1 kk4 lk0 lk1 lk4
      simp only [World.size_alloc] at T5
      go_upto_region 12 with fail
      generalize (w5.alloc (.cells #[.int .i64 l0, .int .i64 l1] 23)).alloc (.cells #[.int .i64 m0, .int .i64 m1] 23) = yy5 at *
      generalize hgb : w5.heap.size + 1 = gb at *
      generalize w5.heap.size = ga at *
      have hk1 : LFk w ga gb a b c d p q r s f g t v l0 l1 m0 m1 yy5 := LFk.mk (LF.mk T5.out)
      clear T5 hgb
      have h0 := hk1.out.all
      go_region_held3 (fun V => LF w ga gb a b c d p q r s f g t v l0 l1 m0 m1 V ∧ (V.cell? ⟨w.heap.size, 0, none⟩ = some (.int .i64 a) ∧ V.cell? ⟨w.heap.size, 1, none⟩ = some (.int .i64 b) ∧ V.cell? ⟨w.heap.size, 2, none⟩ = some (.int .i64 c) ∧ V.cell? ⟨w.heap.size, 3, none⟩ = some (.int .i64 d)) ∧ (V.cell? ⟨w.heap.size + 1, 0, none⟩ = some (.int .i64 p) ∧ V.cell? ⟨w.heap.size + 1, 1, none⟩ = some (.int .i64 q) ∧ V.cell? ⟨w.heap.size + 1, 2, none⟩ = some (.int .i64 r) ∧ V.cell? ⟨w.heap.size + 1, 3, none⟩ = some (.int .i64 s)) ∧ (V.cell? ⟨w.heap.size + 1 + 1, 0, none⟩ = some (.int .i64 f) ∧ V.cell? ⟨w.heap.size + 1 + 1, 1, none⟩ = some (.int .i64 g)) ∧ (V.cell? ⟨w.heap.size + 1 + 1 + 1, 0, none⟩ = some (.int .i64 t) ∧ V.cell? ⟨w.heap.size + 1 + 1 + 1, 1, none⟩ = some (.int .i64 v)) ∧ (V.cell? ⟨ga, 0, none⟩ = some (.int .i64 l0) ∧ V.cell? ⟨ga, 1, none⟩ = some (.int .i64 l1)) ∧ (V.cell? ⟨gb, 0, none⟩ = some (.int .i64 m0) ∧ V.cell? ⟨gb, 1, none⟩ = some (.int .i64 m1)))
        ((refine LF.all ?_; (with_reducible repeat (first | exact LFk.out (by assumption) | apply LF.drew))))
        (first
          | (go_at_call 24; (with_reducible refine (MN.out _).mono ?_); rintro e w' ⟨rfl, hb⟩; (have hk := LFk.mk (LF.step hb (by (with_reducible repeat (first | exact LFk.out (by assumption) | apply LF.drew))))))
          | (go_at_call 26; (with_reducible refine (MX.out _).mono ?_); rintro e w' ⟨rfl, hb⟩; (have hk := LFk.mk (LF.step hb (by (with_reducible repeat (first | exact LFk.out (by assumption) | apply LF.drew))))))
          | (go_at_call 22; (with_reducible refine (HU.out _).mono ?_); rintro e w' ⟨rfl, hb⟩; (have hk := LFk.mk (LF.step hb (by (with_reducible repeat (first | exact LFk.out (by assumption) | apply LF.drew))))))
          | (go_at_call 30; (with_reducible first | (refine (J1.out _).mono ?_) | (refine (J2.out _).mono ?_) | (refine (J3.out _).mono ?_) | (refine (J4.out _).mono ?_)); rintro e w' ⟨rfl, hb⟩; (have hk := LFk.mk (LF.step hb (by (with_reducible repeat (first | exact LFk.out (by assumption) | apply LF.drew))))))
          | (go_at_call 19; (with_reducible refine (AW.out _).mono ?_); rintro e w' ⟨rfl, hb⟩; (have hk := LFk.mk (LF.step hb (by (with_reducible repeat (first | exact LFk.out (by assumption) | apply LF.drew))))); (have HZ := Lib.hid hk)))
      go_wp2
      go_ret
      exact ⟨rfl, HZ.out.out.has.1⟩
end Go.Proofs.Ytbiegbnncnjnmaa.Iv
