/- What stands beside the walk of IntervalLattice; its ways out. -/
import Derived.Test.YtbiegbnncnjnmaaMLa
set_option linter.unusedVariables false
set_option linter.unusedSimpArgs false
namespace Go.Proofs.Ytbiegbnncnjnmaa.Iv
open Go.RowKit
open Go.Proofs.Ytbiegbnncnjnmaa.Pro

/-- The three arguments stand; the hull beside them. -/
structure LX (w : World) (a b c d p q r s u1 u2 u3 u4 : Int) (V : World) : Prop where
  has : Has w ([(w.heap.size + 1 + 1, #[.int .i64 u1, .int .i64 u2, .int .i64 u3, .int .i64 u4], 25), (w.heap.size + 1, #[.int .i64 p, .int .i64 q, .int .i64 r, .int .i64 s], 25), (w.heap.size, #[.int .i64 a, .int .i64 b, .int .i64 c, .int .i64 d], 25)]) V
structure LXk (w : World) (a b c d p q r s u1 u2 u3 u4 : Int) (V : World) : Prop where
  out : LX w a b c d p q r s u1 u2 u3 u4 V
theorem LX.drew {w V : World} {a b c d p q r s u1 u2 u3 u4 : Int} (h : LX w a b c d p q r s u1 u2 u3 u4 V) : LX w a b c d p q r s u1 u2 u3 u4 V.drew := ⟨h.has.drew⟩
theorem LX.step {w V V2 : World} {a b c d p q r s u1 u2 u3 u4 : Int} (hb : Below V.heap.size V V2) (h : LX w a b c d p q r s u1 u2 u3 u4 V) : LX w a b c d p q r s u1 u2 u3 u4 V2 := ⟨h.has.step hb⟩
theorem LX.all {w V : World} {a b c d p q r s u1 u2 u3 u4 : Int} (h : LX w a b c d p q r s u1 u2 u3 u4 V) : LX w a b c d p q r s u1 u2 u3 u4 V ∧ (V.cell? ⟨w.heap.size, 0, none⟩ = some (.int .i64 a) ∧ V.cell? ⟨w.heap.size, 1, none⟩ = some (.int .i64 b) ∧ V.cell? ⟨w.heap.size, 2, none⟩ = some (.int .i64 c) ∧ V.cell? ⟨w.heap.size, 3, none⟩ = some (.int .i64 d)) ∧ (V.cell? ⟨w.heap.size + 1, 0, none⟩ = some (.int .i64 p) ∧ V.cell? ⟨w.heap.size + 1, 1, none⟩ = some (.int .i64 q) ∧ V.cell? ⟨w.heap.size + 1, 2, none⟩ = some (.int .i64 r) ∧ V.cell? ⟨w.heap.size + 1, 3, none⟩ = some (.int .i64 s)) ∧ (V.cell? ⟨w.heap.size + 1 + 1, 0, none⟩ = some (.int .i64 u1) ∧ V.cell? ⟨w.heap.size + 1 + 1, 1, none⟩ = some (.int .i64 u2) ∧ V.cell? ⟨w.heap.size + 1 + 1, 2, none⟩ = some (.int .i64 u3) ∧ V.cell? ⟨w.heap.size + 1 + 1, 3, none⟩ = some (.int .i64 u4)) :=
  have c0 := Has.c4 (g := w.heap.size) (x := .int .i64 a) (y := .int .i64 b) (z := .int .i64 c) (u := .int .i64 d) (t := 25) h.has (by simp)
  have c1 := Has.c4 (g := w.heap.size + 1) (x := .int .i64 p) (y := .int .i64 q) (z := .int .i64 r) (u := .int .i64 s) (t := 25) h.has (by simp)
  have c2 := Has.c4 (g := w.heap.size + 1 + 1) (x := .int .i64 u1) (y := .int .i64 u2) (z := .int .i64 u3) (u := .int .i64 u4) (t := 25) h.has (by simp)
  ⟨h, ⟨c0.1, c0.2.1, c0.2.2.1, c0.2.2.2.1⟩, ⟨c1.1, c1.2.1, c1.2.2.1, c1.2.2.2.1⟩, ⟨c2.1, c2.2.1, c2.2.2.1, c2.2.2.2.1⟩⟩
structure LY (w : World) (gh : Nat) (a b c d p q r s u1 u2 u3 u4 h0 h1 h2 h3 : Int) (V : World) : Prop where
  has : Has w ((gh, #[.int .i64 h0, .int .i64 h1, .int .i64 h2, .int .i64 h3], 25) :: [(w.heap.size + 1 + 1, #[.int .i64 u1, .int .i64 u2, .int .i64 u3, .int .i64 u4], 25), (w.heap.size + 1, #[.int .i64 p, .int .i64 q, .int .i64 r, .int .i64 s], 25), (w.heap.size, #[.int .i64 a, .int .i64 b, .int .i64 c, .int .i64 d], 25)]) V
structure LYk (w : World) (gh : Nat) (a b c d p q r s u1 u2 u3 u4 h0 h1 h2 h3 : Int) (V : World) : Prop where
  out : LY w gh a b c d p q r s u1 u2 u3 u4 h0 h1 h2 h3 V
theorem LY.drew {w V : World} {gh : Nat} {a b c d p q r s u1 u2 u3 u4 h0 h1 h2 h3 : Int} (h : LY w gh a b c d p q r s u1 u2 u3 u4 h0 h1 h2 h3 V) : LY w gh a b c d p q r s u1 u2 u3 u4 h0 h1 h2 h3 V.drew := ⟨h.has.drew⟩
theorem LY.step {w V V2 : World} {gh : Nat} {a b c d p q r s u1 u2 u3 u4 h0 h1 h2 h3 : Int} (hb : Below V.heap.size V V2) (h : LY w gh a b c d p q r s u1 u2 u3 u4 h0 h1 h2 h3 V) : LY w gh a b c d p q r s u1 u2 u3 u4 h0 h1 h2 h3 V2 := ⟨h.has.step hb⟩
theorem LY.all {w V : World} {gh : Nat} {a b c d p q r s u1 u2 u3 u4 h0 h1 h2 h3 : Int} (h : LY w gh a b c d p q r s u1 u2 u3 u4 h0 h1 h2 h3 V) : LY w gh a b c d p q r s u1 u2 u3 u4 h0 h1 h2 h3 V ∧ (V.cell? ⟨w.heap.size, 0, none⟩ = some (.int .i64 a) ∧ V.cell? ⟨w.heap.size, 1, none⟩ = some (.int .i64 b) ∧ V.cell? ⟨w.heap.size, 2, none⟩ = some (.int .i64 c) ∧ V.cell? ⟨w.heap.size, 3, none⟩ = some (.int .i64 d)) ∧ (V.cell? ⟨w.heap.size + 1, 0, none⟩ = some (.int .i64 p) ∧ V.cell? ⟨w.heap.size + 1, 1, none⟩ = some (.int .i64 q) ∧ V.cell? ⟨w.heap.size + 1, 2, none⟩ = some (.int .i64 r) ∧ V.cell? ⟨w.heap.size + 1, 3, none⟩ = some (.int .i64 s)) ∧ (V.cell? ⟨w.heap.size + 1 + 1, 0, none⟩ = some (.int .i64 u1) ∧ V.cell? ⟨w.heap.size + 1 + 1, 1, none⟩ = some (.int .i64 u2) ∧ V.cell? ⟨w.heap.size + 1 + 1, 2, none⟩ = some (.int .i64 u3) ∧ V.cell? ⟨w.heap.size + 1 + 1, 3, none⟩ = some (.int .i64 u4)) ∧ (V.cell? ⟨gh, 0, none⟩ = some (.int .i64 h0) ∧ V.cell? ⟨gh, 1, none⟩ = some (.int .i64 h1) ∧ V.cell? ⟨gh, 2, none⟩ = some (.int .i64 h2) ∧ V.cell? ⟨gh, 3, none⟩ = some (.int .i64 h3)) :=
  have c0 := Has.c4 (g := w.heap.size) (x := .int .i64 a) (y := .int .i64 b) (z := .int .i64 c) (u := .int .i64 d) (t := 25) h.has (by simp)
  have c1 := Has.c4 (g := w.heap.size + 1) (x := .int .i64 p) (y := .int .i64 q) (z := .int .i64 r) (u := .int .i64 s) (t := 25) h.has (by simp)
  have c2 := Has.c4 (g := w.heap.size + 1 + 1) (x := .int .i64 u1) (y := .int .i64 u2) (z := .int .i64 u3) (u := .int .i64 u4) (t := 25) h.has (by simp)
  have c3 := Has.c4 (g := gh) (x := .int .i64 h0) (y := .int .i64 h1) (z := .int .i64 h2) (u := .int .i64 h3) (t := 25) h.has (by simp)
  ⟨h, ⟨c0.1, c0.2.1, c0.2.2.1, c0.2.2.2.1⟩, ⟨c1.1, c1.2.1, c1.2.2.1, c1.2.2.2.1⟩, ⟨c2.1, c2.2.1, c2.2.2.1, c2.2.2.2.1⟩, ⟨c3.1, c3.2.1, c3.2.2.1, c3.2.2.2.1⟩⟩
set_option maxRecDepth 100000 in
set_option maxHeartbeats 4000000 in
theorem tlaw_out1 (a b c d p q r s u1 u2 u3 u4 ee : Int) (hn : ¬ ee = 0)
    (K1 : Hid (∀ w : World, Calls Try.prog 13 #[.agg #[.int .i64 a, .int .i64 b, .int .i64 c, .int .i64 d]] w fun e w' => e = .returned (.int .i64 ee) ∧ Below w.heap.size w w'))
    (AW : Hid (∀ w : World, Calls Try.prog 19 #[] w fun e w' => e = .returned (.bool true) ∧ Below w.heap.size w w'))
    (w : World) : Calls Try.prog 10 #[.agg #[.int .i64 a, .int .i64 b, .int .i64 c, .int .i64 d], .agg #[.int .i64 p, .int .i64 q, .int .i64 r, .int .i64 s], .agg #[.int .i64 u1, .int .i64 u2, .int .i64 u3, .int .i64 u4]] w fun e w' => e = .returned (.bool true) ∧ Below w.heap.size w w' := by
  have hnb : (ee != 0) = true := by simp [hn]
  have T0 := Lib.hid (three0 w #[.int .i64 a, .int .i64 b, .int .i64 c, .int .i64 d] #[.int .i64 p, .int .i64 q, .int .i64 r, .int .i64 s] #[.int .i64 u1, .int .i64 u2, .int .i64 u3, .int .i64 u4] 25 25 25)
  go_enter Try.func10, Try.ntmps10
  go_upto_region 1 with fail
  generalize ((w.alloc (.cells #[.int .i64 a, .int .i64 b, .int .i64 c, .int .i64 d] 25)).alloc (.cells #[.int .i64 p, .int .i64 q, .int .i64 r, .int .i64 s] 25)).alloc (.cells #[.int .i64 u1, .int .i64 u2, .int .i64 u3, .int .i64 u4] 25) = W0 at *
  obtain ⟨x0, x1, x2, x3, x4⟩ := Has.c4 (g := w.heap.size) (x := .int .i64 a) (y := .int .i64 b) (z := .int .i64 c) (u := .int .i64 d) (t := 25) T0.out (by simp)
  obtain ⟨y0, y1, y2, y3, y4⟩ := Has.c4 (g := w.heap.size + 1) (x := .int .i64 p) (y := .int .i64 q) (z := .int .i64 r) (u := .int .i64 s) (t := 25) T0.out (by simp)
  obtain ⟨z0, z1, z2, z3, z4⟩ := Has.c4 (g := w.heap.size + 1 + 1) (x := .int .i64 u1) (y := .int .i64 u2) (z := .int .i64 u3) (u := .int .i64 u4) (t := 25) T0.out (by simp)
  go_wp2_with fail
  with_reducible refine ((K1.out) _).mono ?_
  rintro e w1 ⟨rfl, hb⟩
  have T1 := Lib.hid (T0.out.step hb)
  clear hb
  clear x0 x1 x2 x3 x4 y0 y1 y2 y3 y4 z0 z1 z2 z3 z4
  go_wp2_with fail
  with_reducible refine ((AW.out) _).mono ?_
  rintro e w9 ⟨rfl, hb⟩
  have T9 := Lib.hid (T1.out.step hb)
  clear hb
  go_wp2
  go_ret
  exact ⟨rfl, T9.out.1⟩
set_option maxRecDepth 100000 in
set_option maxHeartbeats 4000000 in
theorem tlaw_out2 (a b c d p q r s u1 u2 u3 u4 ee : Int) (hn : ¬ ee = 0)
    (K1 : Hid (∀ w : World, Calls Try.prog 13 #[.agg #[.int .i64 a, .int .i64 b, .int .i64 c, .int .i64 d]] w fun e w' => e = .returned (.int .i64 0) ∧ Below w.heap.size w w'))
    (K2 : Hid (∀ w : World, Calls Try.prog 13 #[.agg #[.int .i64 p, .int .i64 q, .int .i64 r, .int .i64 s]] w fun e w' => e = .returned (.int .i64 ee) ∧ Below w.heap.size w w'))
    (AW : Hid (∀ w : World, Calls Try.prog 19 #[] w fun e w' => e = .returned (.bool true) ∧ Below w.heap.size w w'))
    (w : World) : Calls Try.prog 10 #[.agg #[.int .i64 a, .int .i64 b, .int .i64 c, .int .i64 d], .agg #[.int .i64 p, .int .i64 q, .int .i64 r, .int .i64 s], .agg #[.int .i64 u1, .int .i64 u2, .int .i64 u3, .int .i64 u4]] w fun e w' => e = .returned (.bool true) ∧ Below w.heap.size w w' := by
  have hnb : (ee != 0) = true := by simp [hn]
  have T0 := Lib.hid (three0 w #[.int .i64 a, .int .i64 b, .int .i64 c, .int .i64 d] #[.int .i64 p, .int .i64 q, .int .i64 r, .int .i64 s] #[.int .i64 u1, .int .i64 u2, .int .i64 u3, .int .i64 u4] 25 25 25)
  go_enter Try.func10, Try.ntmps10
  go_upto_region 1 with fail
  generalize ((w.alloc (.cells #[.int .i64 a, .int .i64 b, .int .i64 c, .int .i64 d] 25)).alloc (.cells #[.int .i64 p, .int .i64 q, .int .i64 r, .int .i64 s] 25)).alloc (.cells #[.int .i64 u1, .int .i64 u2, .int .i64 u3, .int .i64 u4] 25) = W0 at *
  obtain ⟨x0, x1, x2, x3, x4⟩ := Has.c4 (g := w.heap.size) (x := .int .i64 a) (y := .int .i64 b) (z := .int .i64 c) (u := .int .i64 d) (t := 25) T0.out (by simp)
  obtain ⟨y0, y1, y2, y3, y4⟩ := Has.c4 (g := w.heap.size + 1) (x := .int .i64 p) (y := .int .i64 q) (z := .int .i64 r) (u := .int .i64 s) (t := 25) T0.out (by simp)
  obtain ⟨z0, z1, z2, z3, z4⟩ := Has.c4 (g := w.heap.size + 1 + 1) (x := .int .i64 u1) (y := .int .i64 u2) (z := .int .i64 u3) (u := .int .i64 u4) (t := 25) T0.out (by simp)
  go_wp2_with fail
  with_reducible refine ((K1.out) _).mono ?_
  rintro e w1 ⟨rfl, hb⟩
  have T1 := Lib.hid (T0.out.step hb)
  clear hb
  clear x0 x1 x2 x3 x4 y0 y1 y2 y3 y4 z0 z1 z2 z3 z4
  obtain ⟨x0, x1, x2, x3, x4⟩ := Has.c4 (g := w.heap.size) (x := .int .i64 a) (y := .int .i64 b) (z := .int .i64 c) (u := .int .i64 d) (t := 25) T1.out (by simp)
  obtain ⟨y0, y1, y2, y3, y4⟩ := Has.c4 (g := w.heap.size + 1) (x := .int .i64 p) (y := .int .i64 q) (z := .int .i64 r) (u := .int .i64 s) (t := 25) T1.out (by simp)
  obtain ⟨z0, z1, z2, z3, z4⟩ := Has.c4 (g := w.heap.size + 1 + 1) (x := .int .i64 u1) (y := .int .i64 u2) (z := .int .i64 u3) (u := .int .i64 u4) (t := 25) T1.out (by simp)
  go_wp2_with fail
  with_reducible refine ((K2.out) _).mono ?_
  rintro e w2 ⟨rfl, hb⟩
  have T2 := Lib.hid (T1.out.step hb)
  clear hb
  clear x0 x1 x2 x3 x4 y0 y1 y2 y3 y4 z0 z1 z2 z3 z4
  go_wp2_with fail
  with_reducible refine ((AW.out) _).mono ?_
  rintro e w9 ⟨rfl, hb⟩
  have T9 := Lib.hid (T2.out.step hb)
  clear hb
  go_wp2
  go_ret
  exact ⟨rfl, T9.out.1⟩
set_option maxRecDepth 100000 in
set_option maxHeartbeats 4000000 in
theorem tlaw_out3 (a b c d p q r s u1 u2 u3 u4 ee : Int) (hn : ¬ ee = 0)
    (K1 : Hid (∀ w : World, Calls Try.prog 13 #[.agg #[.int .i64 a, .int .i64 b, .int .i64 c, .int .i64 d]] w fun e w' => e = .returned (.int .i64 0) ∧ Below w.heap.size w w'))
    (K2 : Hid (∀ w : World, Calls Try.prog 13 #[.agg #[.int .i64 p, .int .i64 q, .int .i64 r, .int .i64 s]] w fun e w' => e = .returned (.int .i64 0) ∧ Below w.heap.size w w'))
    (K3 : Hid (∀ w : World, Calls Try.prog 13 #[.agg #[.int .i64 u1, .int .i64 u2, .int .i64 u3, .int .i64 u4]] w fun e w' => e = .returned (.int .i64 ee) ∧ Below w.heap.size w w'))
    (AW : Hid (∀ w : World, Calls Try.prog 19 #[] w fun e w' => e = .returned (.bool true) ∧ Below w.heap.size w w'))
    (w : World) : Calls Try.prog 10 #[.agg #[.int .i64 a, .int .i64 b, .int .i64 c, .int .i64 d], .agg #[.int .i64 p, .int .i64 q, .int .i64 r, .int .i64 s], .agg #[.int .i64 u1, .int .i64 u2, .int .i64 u3, .int .i64 u4]] w fun e w' => e = .returned (.bool true) ∧ Below w.heap.size w w' := by
  have hnb : (ee != 0) = true := by simp [hn]
  have T0 := Lib.hid (three0 w #[.int .i64 a, .int .i64 b, .int .i64 c, .int .i64 d] #[.int .i64 p, .int .i64 q, .int .i64 r, .int .i64 s] #[.int .i64 u1, .int .i64 u2, .int .i64 u3, .int .i64 u4] 25 25 25)
  go_enter Try.func10, Try.ntmps10
  go_upto_region 1 with fail
  generalize ((w.alloc (.cells #[.int .i64 a, .int .i64 b, .int .i64 c, .int .i64 d] 25)).alloc (.cells #[.int .i64 p, .int .i64 q, .int .i64 r, .int .i64 s] 25)).alloc (.cells #[.int .i64 u1, .int .i64 u2, .int .i64 u3, .int .i64 u4] 25) = W0 at *
  obtain ⟨x0, x1, x2, x3, x4⟩ := Has.c4 (g := w.heap.size) (x := .int .i64 a) (y := .int .i64 b) (z := .int .i64 c) (u := .int .i64 d) (t := 25) T0.out (by simp)
  obtain ⟨y0, y1, y2, y3, y4⟩ := Has.c4 (g := w.heap.size + 1) (x := .int .i64 p) (y := .int .i64 q) (z := .int .i64 r) (u := .int .i64 s) (t := 25) T0.out (by simp)
  obtain ⟨z0, z1, z2, z3, z4⟩ := Has.c4 (g := w.heap.size + 1 + 1) (x := .int .i64 u1) (y := .int .i64 u2) (z := .int .i64 u3) (u := .int .i64 u4) (t := 25) T0.out (by simp)
  go_wp2_with fail
  with_reducible refine ((K1.out) _).mono ?_
  rintro e w1 ⟨rfl, hb⟩
  have T1 := Lib.hid (T0.out.step hb)
  clear hb
  clear x0 x1 x2 x3 x4 y0 y1 y2 y3 y4 z0 z1 z2 z3 z4
  obtain ⟨x0, x1, x2, x3, x4⟩ := Has.c4 (g := w.heap.size) (x := .int .i64 a) (y := .int .i64 b) (z := .int .i64 c) (u := .int .i64 d) (t := 25) T1.out (by simp)
  obtain ⟨y0, y1, y2, y3, y4⟩ := Has.c4 (g := w.heap.size + 1) (x := .int .i64 p) (y := .int .i64 q) (z := .int .i64 r) (u := .int .i64 s) (t := 25) T1.out (by simp)
  obtain ⟨z0, z1, z2, z3, z4⟩ := Has.c4 (g := w.heap.size + 1 + 1) (x := .int .i64 u1) (y := .int .i64 u2) (z := .int .i64 u3) (u := .int .i64 u4) (t := 25) T1.out (by simp)
  go_wp2_with fail
  with_reducible refine ((K2.out) _).mono ?_
  rintro e w2 ⟨rfl, hb⟩
  have T2 := Lib.hid (T1.out.step hb)
  clear hb
  clear x0 x1 x2 x3 x4 y0 y1 y2 y3 y4 z0 z1 z2 z3 z4
  obtain ⟨x0, x1, x2, x3, x4⟩ := Has.c4 (g := w.heap.size) (x := .int .i64 a) (y := .int .i64 b) (z := .int .i64 c) (u := .int .i64 d) (t := 25) T2.out (by simp)
  obtain ⟨y0, y1, y2, y3, y4⟩ := Has.c4 (g := w.heap.size + 1) (x := .int .i64 p) (y := .int .i64 q) (z := .int .i64 r) (u := .int .i64 s) (t := 25) T2.out (by simp)
  obtain ⟨z0, z1, z2, z3, z4⟩ := Has.c4 (g := w.heap.size + 1 + 1) (x := .int .i64 u1) (y := .int .i64 u2) (z := .int .i64 u3) (u := .int .i64 u4) (t := 25) T2.out (by simp)
  go_wp2_with fail
  with_reducible refine ((K3.out) _).mono ?_
  rintro e w3 ⟨rfl, hb⟩
  have T3 := Lib.hid (T2.out.step hb)
  clear hb
  clear x0 x1 x2 x3 x4 y0 y1 y2 y3 y4 z0 z1 z2 z3 z4
  go_wp2_with fail
  with_reducible refine ((AW.out) _).mono ?_
  rintro e w9 ⟨rfl, hb⟩
  have T9 := Lib.hid (T3.out.step hb)
  clear hb
  go_wp2
  go_ret
  exact ⟨rfl, T9.out.1⟩
end Go.Proofs.Ytbiegbnncnjnmaa.Iv
