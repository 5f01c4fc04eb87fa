/- The walk of IntervalLattice. -/
import Derived.Test.YtbiegbnncnjnmaaQX
import Derived.Lib.QuietBelow
set_option linter.unusedVariables false
set_option linter.unusedSimpArgs false
namespace Go.Proofs.Ytbiegbnncnjnmaa.Iv
open Go.RowKit Go.Sort
open Go.Proofs.Ytbiegbnncnjnmaa.Pro

structure LZ (w : World) (gf : Nat) (a b c d p q r s u1 u2 u3 u4 : Int) (V : World) : Prop where
  has : Has w ((gf, #[.func (.func 22) #[] #[], .func (.func 24) #[] #[], .func (.func 26) #[] #[]], 35) :: [(w.heap.size + 1 + 1, #[.int .i64 u1, .int .i64 u2, .int .i64 u3, .int .i64 u4], 25), (w.heap.size + 1, #[.int .i64 p, .int .i64 q, .int .i64 r, .int .i64 s], 25), (w.heap.size, #[.int .i64 a, .int .i64 b, .int .i64 c, .int .i64 d], 25)]) V
structure LZk (w : World) (gf : Nat) (a b c d p q r s u1 u2 u3 u4 : Int) (V : World) : Prop where
  out : LZ w gf a b c d p q r s u1 u2 u3 u4 V
theorem LZ.drew {w V : World} {gf : Nat} {a b c d p q r s u1 u2 u3 u4 : Int} (h : LZ w gf a b c d p q r s u1 u2 u3 u4 V) : LZ w gf a b c d p q r s u1 u2 u3 u4 V.drew := ⟨h.has.drew⟩
theorem LZ.step {w V V2 : World} {gf : Nat} {a b c d p q r s u1 u2 u3 u4 : Int} (hb : Below V.heap.size V V2) (h : LZ w gf a b c d p q r s u1 u2 u3 u4 V) : LZ w gf a b c d p q r s u1 u2 u3 u4 V2 := ⟨h.has.step hb⟩
theorem LZ.all {w V : World} {gf : Nat} {a b c d p q r s u1 u2 u3 u4 : Int} (h : LZ w gf a b c d p q r s u1 u2 u3 u4 V) : LZ w gf a b c d p q r s u1 u2 u3 u4 V ∧ (V.cell? ⟨w.heap.size, 0, none⟩ = some (.int .i64 a) ∧ V.cell? ⟨w.heap.size, 1, none⟩ = some (.int .i64 b) ∧ V.cell? ⟨w.heap.size, 2, none⟩ = some (.int .i64 c) ∧ V.cell? ⟨w.heap.size, 3, none⟩ = some (.int .i64 d)) ∧ (V.cell? ⟨w.heap.size + 1, 0, none⟩ = some (.int .i64 p) ∧ V.cell? ⟨w.heap.size + 1, 1, none⟩ = some (.int .i64 q) ∧ V.cell? ⟨w.heap.size + 1, 2, none⟩ = some (.int .i64 r) ∧ V.cell? ⟨w.heap.size + 1, 3, none⟩ = some (.int .i64 s)) ∧ (V.cell? ⟨w.heap.size + 1 + 1, 0, none⟩ = some (.int .i64 u1) ∧ V.cell? ⟨w.heap.size + 1 + 1, 1, none⟩ = some (.int .i64 u2) ∧ V.cell? ⟨w.heap.size + 1 + 1, 2, none⟩ = some (.int .i64 u3) ∧ V.cell? ⟨w.heap.size + 1 + 1, 3, none⟩ = some (.int .i64 u4)) :=
  have c0 := Has.c4 (g := w.heap.size) (x := .int .i64 a) (y := .int .i64 b) (z := .int .i64 c) (u := .int .i64 d) (t := 25) h.has (by simp)
  have c1 := Has.c4 (g := w.heap.size + 1) (x := .int .i64 p) (y := .int .i64 q) (z := .int .i64 r) (u := .int .i64 s) (t := 25) h.has (by simp)
  have c2 := Has.c4 (g := w.heap.size + 1 + 1) (x := .int .i64 u1) (y := .int .i64 u2) (z := .int .i64 u3) (u := .int .i64 u4) (t := 25) h.has (by simp)
  ⟨h, ⟨c0.1, c0.2.1, c0.2.2.1, c0.2.2.2.1⟩, ⟨c1.1, c1.2.1, c1.2.2.1, c1.2.2.2.1⟩, ⟨c2.1, c2.2.1, c2.2.2.1, c2.2.2.2.1⟩⟩
set_option maxRecDepth 100000 in
set_option maxHeartbeats 16000000 in
theorem tlaw_raw (a b c d p q r s u1 u2 u3 u4 hum0 hum1 hum2 hum3 hun0 hun1 hun2 hun3 huk0 huk1 huk2 huk3 mnm0 mnm1 mnm2 mnm3 mnn0 mnn1 mnn2 mnn3 mnk0 mnk1 mnk2 mnk3 mxm0 mxm1 mxm2 mxm3 mxn0 mxn1 mxn2 mxn3 mxk0 mxk1 mxk2 mxk3 : Int) (cx cy : Bool)
    (K1 : Hid (∀ w : World, Calls Try.prog 13 #[.agg #[.int .i64 a, .int .i64 b, .int .i64 c, .int .i64 d]] w fun e w' => e = .returned (.int .i64 0) ∧ Below w.heap.size w w'))
    (K2 : Hid (∀ w : World, Calls Try.prog 13 #[.agg #[.int .i64 p, .int .i64 q, .int .i64 r, .int .i64 s]] w fun e w' => e = .returned (.int .i64 0) ∧ Below w.heap.size w w'))
    (K3 : Hid (∀ w : World, Calls Try.prog 13 #[.agg #[.int .i64 u1, .int .i64 u2, .int .i64 u3, .int .i64 u4]] w fun e w' => e = .returned (.int .i64 0) ∧ Below w.heap.size w w'))
    (hua : Hid (∀ w : World, Calls Try.prog 22 #[.agg #[.int .i64 a, .int .i64 b, .int .i64 c, .int .i64 d], .agg #[.int .i64 p, .int .i64 q, .int .i64 r, .int .i64 s]] w fun e w' => e = .returned (.agg #[.int .i64 hum0, .int .i64 hum1, .int .i64 hum2, .int .i64 hum3]) ∧ Below w.heap.size w w'))
    (hub : Hid (∀ w : World, Calls Try.prog 22 #[.agg #[.int .i64 p, .int .i64 q, .int .i64 r, .int .i64 s], .agg #[.int .i64 a, .int .i64 b, .int .i64 c, .int .i64 d]] w fun e w' => e = .returned (.agg #[.int .i64 hum0, .int .i64 hum1, .int .i64 hum2, .int .i64 hum3]) ∧ Below w.heap.size w w'))
    (huc : Hid (∀ w : World, Calls Try.prog 22 #[.agg #[.int .i64 hum0, .int .i64 hum1, .int .i64 hum2, .int .i64 hum3], .agg #[.int .i64 u1, .int .i64 u2, .int .i64 u3, .int .i64 u4]] w fun e w' => e = .returned (.agg #[.int .i64 hun0, .int .i64 hun1, .int .i64 hun2, .int .i64 hun3]) ∧ Below w.heap.size w w'))
    (hud : Hid (∀ w : World, Calls Try.prog 22 #[.agg #[.int .i64 p, .int .i64 q, .int .i64 r, .int .i64 s], .agg #[.int .i64 u1, .int .i64 u2, .int .i64 u3, .int .i64 u4]] w fun e w' => e = .returned (.agg #[.int .i64 huk0, .int .i64 huk1, .int .i64 huk2, .int .i64 huk3]) ∧ Below w.heap.size w w'))
    (hue : Hid (∀ w : World, Calls Try.prog 22 #[.agg #[.int .i64 a, .int .i64 b, .int .i64 c, .int .i64 d], .agg #[.int .i64 huk0, .int .i64 huk1, .int .i64 huk2, .int .i64 huk3]] w fun e w' => e = .returned (.agg #[.int .i64 hun0, .int .i64 hun1, .int .i64 hun2, .int .i64 hun3]) ∧ Below w.heap.size w w'))
    (huf : Hid (∀ w : World, Calls Try.prog 22 #[.agg #[.int .i64 a, .int .i64 b, .int .i64 c, .int .i64 d], .agg #[.int .i64 a, .int .i64 b, .int .i64 c, .int .i64 d]] w fun e w' => e = .returned (.agg #[.int .i64 a, .int .i64 b, .int .i64 c, .int .i64 d]) ∧ Below w.heap.size w w'))
    (hug : Hid (∀ w : World, Calls Try.prog 13 #[.agg #[.int .i64 hum0, .int .i64 hum1, .int .i64 hum2, .int .i64 hum3]] w fun e w' => e = .returned (.int .i64 0) ∧ Below w.heap.size w w'))
    (mna : Hid (∀ w : World, Calls Try.prog 24 #[.agg #[.int .i64 a, .int .i64 b, .int .i64 c, .int .i64 d], .agg #[.int .i64 p, .int .i64 q, .int .i64 r, .int .i64 s]] w fun e w' => e = .returned (.agg #[.int .i64 mnm0, .int .i64 mnm1, .int .i64 mnm2, .int .i64 mnm3]) ∧ Below w.heap.size w w'))
    (mnb : Hid (∀ w : World, Calls Try.prog 24 #[.agg #[.int .i64 p, .int .i64 q, .int .i64 r, .int .i64 s], .agg #[.int .i64 a, .int .i64 b, .int .i64 c, .int .i64 d]] w fun e w' => e = .returned (.agg #[.int .i64 mnm0, .int .i64 mnm1, .int .i64 mnm2, .int .i64 mnm3]) ∧ Below w.heap.size w w'))
    (mnc : Hid (∀ w : World, Calls Try.prog 24 #[.agg #[.int .i64 mnm0, .int .i64 mnm1, .int .i64 mnm2, .int .i64 mnm3], .agg #[.int .i64 u1, .int .i64 u2, .int .i64 u3, .int .i64 u4]] w fun e w' => e = .returned (.agg #[.int .i64 mnn0, .int .i64 mnn1, .int .i64 mnn2, .int .i64 mnn3]) ∧ Below w.heap.size w w'))
    (mnd : Hid (∀ w : World, Calls Try.prog 24 #[.agg #[.int .i64 p, .int .i64 q, .int .i64 r, .int .i64 s], .agg #[.int .i64 u1, .int .i64 u2, .int .i64 u3, .int .i64 u4]] w fun e w' => e = .returned (.agg #[.int .i64 mnk0, .int .i64 mnk1, .int .i64 mnk2, .int .i64 mnk3]) ∧ Below w.heap.size w w'))
    (mne : Hid (∀ w : World, Calls Try.prog 24 #[.agg #[.int .i64 a, .int .i64 b, .int .i64 c, .int .i64 d], .agg #[.int .i64 mnk0, .int .i64 mnk1, .int .i64 mnk2, .int .i64 mnk3]] w fun e w' => e = .returned (.agg #[.int .i64 mnn0, .int .i64 mnn1, .int .i64 mnn2, .int .i64 mnn3]) ∧ Below w.heap.size w w'))
    (mnf : Hid (∀ w : World, Calls Try.prog 24 #[.agg #[.int .i64 a, .int .i64 b, .int .i64 c, .int .i64 d], .agg #[.int .i64 a, .int .i64 b, .int .i64 c, .int .i64 d]] w fun e w' => e = .returned (.agg #[.int .i64 a, .int .i64 b, .int .i64 c, .int .i64 d]) ∧ Below w.heap.size w w'))
    (mng : Hid (∀ w : World, Calls Try.prog 13 #[.agg #[.int .i64 mnm0, .int .i64 mnm1, .int .i64 mnm2, .int .i64 mnm3]] w fun e w' => e = .returned (.int .i64 0) ∧ Below w.heap.size w w'))
    (mxa : Hid (∀ w : World, Calls Try.prog 26 #[.agg #[.int .i64 a, .int .i64 b, .int .i64 c, .int .i64 d], .agg #[.int .i64 p, .int .i64 q, .int .i64 r, .int .i64 s]] w fun e w' => e = .returned (.agg #[.int .i64 mxm0, .int .i64 mxm1, .int .i64 mxm2, .int .i64 mxm3]) ∧ Below w.heap.size w w'))
    (mxb : Hid (∀ w : World, Calls Try.prog 26 #[.agg #[.int .i64 p, .int .i64 q, .int .i64 r, .int .i64 s], .agg #[.int .i64 a, .int .i64 b, .int .i64 c, .int .i64 d]] w fun e w' => e = .returned (.agg #[.int .i64 mxm0, .int .i64 mxm1, .int .i64 mxm2, .int .i64 mxm3]) ∧ Below w.heap.size w w'))
    (mxc : Hid (∀ w : World, Calls Try.prog 26 #[.agg #[.int .i64 mxm0, .int .i64 mxm1, .int .i64 mxm2, .int .i64 mxm3], .agg #[.int .i64 u1, .int .i64 u2, .int .i64 u3, .int .i64 u4]] w fun e w' => e = .returned (.agg #[.int .i64 mxn0, .int .i64 mxn1, .int .i64 mxn2, .int .i64 mxn3]) ∧ Below w.heap.size w w'))
    (mxd : Hid (∀ w : World, Calls Try.prog 26 #[.agg #[.int .i64 p, .int .i64 q, .int .i64 r, .int .i64 s], .agg #[.int .i64 u1, .int .i64 u2, .int .i64 u3, .int .i64 u4]] w fun e w' => e = .returned (.agg #[.int .i64 mxk0, .int .i64 mxk1, .int .i64 mxk2, .int .i64 mxk3]) ∧ Below w.heap.size w w'))
    (mxe : Hid (∀ w : World, Calls Try.prog 26 #[.agg #[.int .i64 a, .int .i64 b, .int .i64 c, .int .i64 d], .agg #[.int .i64 mxk0, .int .i64 mxk1, .int .i64 mxk2, .int .i64 mxk3]] w fun e w' => e = .returned (.agg #[.int .i64 mxn0, .int .i64 mxn1, .int .i64 mxn2, .int .i64 mxn3]) ∧ Below w.heap.size w w'))
    (mxf : Hid (∀ w : World, Calls Try.prog 26 #[.agg #[.int .i64 a, .int .i64 b, .int .i64 c, .int .i64 d], .agg #[.int .i64 a, .int .i64 b, .int .i64 c, .int .i64 d]] w fun e w' => e = .returned (.agg #[.int .i64 a, .int .i64 b, .int .i64 c, .int .i64 d]) ∧ Below w.heap.size w w'))
    (mxg : Hid (∀ w : World, Calls Try.prog 13 #[.agg #[.int .i64 mxm0, .int .i64 mxm1, .int .i64 mxm2, .int .i64 mxm3]] w fun e w' => e = .returned (.int .i64 0) ∧ Below w.heap.size w w'))
    (N1 : Hid (∀ w : World, Calls Try.prog 17 #[.agg #[.int .i64 hum0, .int .i64 hum1, .int .i64 hum2, .int .i64 hum3], .agg #[.int .i64 a, .int .i64 b, .int .i64 c, .int .i64 d]] w fun e w' => e = .returned (.bool true) ∧ Below w.heap.size w w'))
    (N2 : Hid (∀ w : World, Calls Try.prog 17 #[.agg #[.int .i64 hum0, .int .i64 hum1, .int .i64 hum2, .int .i64 hum3], .agg #[.int .i64 p, .int .i64 q, .int .i64 r, .int .i64 s]] w fun e w' => e = .returned (.bool true) ∧ Below w.heap.size w w'))
    (N3 : Hid (∀ w : World, Calls Try.prog 17 #[.agg #[.int .i64 u1, .int .i64 u2, .int .i64 u3, .int .i64 u4], .agg #[.int .i64 hum0, .int .i64 hum1, .int .i64 hum2, .int .i64 hum3]] w fun e w' => e = .returned (.bool (cx && cy)) ∧ Below w.heap.size w w'))
    (N4 : Hid (∀ w : World, Calls Try.prog 17 #[.agg #[.int .i64 u1, .int .i64 u2, .int .i64 u3, .int .i64 u4], .agg #[.int .i64 a, .int .i64 b, .int .i64 c, .int .i64 d]] w fun e w' => e = .returned (.bool cx) ∧ Below w.heap.size w w'))
    (N5 : Hid (∀ w : World, Calls Try.prog 17 #[.agg #[.int .i64 u1, .int .i64 u2, .int .i64 u3, .int .i64 u4], .agg #[.int .i64 p, .int .i64 q, .int .i64 r, .int .i64 s]] w fun e w' => e = .returned (.bool cy) ∧ Below w.heap.size w w'))
    (ME : Hid (∀ w : World, Calls Try.prog 24 #[.agg #[.int .i64 a, .int .i64 b, .int .i64 c, .int .i64 d], .agg #[.int .i64 mxm0, .int .i64 mxm1, .int .i64 mxm2, .int .i64 mxm3]] w fun e w' => e = .returned (.agg #[.int .i64 a, .int .i64 b, .int .i64 c, .int .i64 d]) ∧ Below w.heap.size w w'))
    (AW : Hid (∀ w : World, Calls Try.prog 19 #[] w fun e w' => e = .returned (.bool true) ∧ Below w.heap.size w w'))
    (w : World) : Calls Try.prog 10 #[.agg #[.int .i64 a, .int .i64 b, .int .i64 c, .int .i64 d], .agg #[.int .i64 p, .int .i64 q, .int .i64 r, .int .i64 s], .agg #[.int .i64 u1, .int .i64 u2, .int .i64 u3, .int .i64 u4]] w fun e w' => e = .returned (.bool true) ∧ Below w.heap.size w w' := by
  have T0 := Lib.hid (three0 w #[.int .i64 a, .int .i64 b, .int .i64 c, .int .i64 d] #[.int .i64 p, .int .i64 q, .int .i64 r, .int .i64 s] #[.int .i64 u1, .int .i64 u2, .int .i64 u3, .int .i64 u4] 25 25 25)
  go_enter Try.func10, Try.ntmps10
  go_upto_region 1 with fail
  generalize ((w.alloc (.cells #[.int .i64 a, .int .i64 b, .int .i64 c, .int .i64 d] 25)).alloc (.cells #[.int .i64 p, .int .i64 q, .int .i64 r, .int .i64 s] 25)).alloc (.cells #[.int .i64 u1, .int .i64 u2, .int .i64 u3, .int .i64 u4] 25) = W0 at *
  obtain ⟨x0, x1, x2, x3, x4⟩ := Has.c4 (g := w.heap.size) (x := .int .i64 a) (y := .int .i64 b) (z := .int .i64 c) (u := .int .i64 d) (t := 25) T0.out (by simp)
  obtain ⟨y0, y1, y2, y3, y4⟩ := Has.c4 (g := w.heap.size + 1) (x := .int .i64 p) (y := .int .i64 q) (z := .int .i64 r) (u := .int .i64 s) (t := 25) T0.out (by simp)
  obtain ⟨z0, z1, z2, z3, z4⟩ := Has.c4 (g := w.heap.size + 1 + 1) (x := .int .i64 u1) (y := .int .i64 u2) (z := .int .i64 u3) (u := .int .i64 u4) (t := 25) T0.out (by simp)
  go_wp2_with fail
  with_reducible refine ((K1.out) _).mono ?_
  rintro e w1 ⟨rfl, hb⟩
  have T1 := Lib.hid (T0.out.step hb)
  clear hb
  clear x0 x1 x2 x3 x4 y0 y1 y2 y3 y4 z0 z1 z2 z3 z4
  obtain ⟨x0, x1, x2, x3, x4⟩ := Has.c4 (g := w.heap.size) (x := .int .i64 a) (y := .int .i64 b) (z := .int .i64 c) (u := .int .i64 d) (t := 25) T1.out (by simp)
  obtain ⟨y0, y1, y2, y3, y4⟩ := Has.c4 (g := w.heap.size + 1) (x := .int .i64 p) (y := .int .i64 q) (z := .int .i64 r) (u := .int .i64 s) (t := 25) T1.out (by simp)
  obtain ⟨z0, z1, z2, z3, z4⟩ := Has.c4 (g := w.heap.size + 1 + 1) (x := .int .i64 u1) (y := .int .i64 u2) (z := .int .i64 u3) (u := .int .i64 u4) (t := 25) T1.out (by simp)
  go_wp2_with fail
  with_reducible refine ((K2.out) _).mono ?_
  rintro e w2 ⟨rfl, hb⟩
  have T2 := Lib.hid (T1.out.step hb)
  clear hb
  clear x0 x1 x2 x3 x4 y0 y1 y2 y3 y4 z0 z1 z2 z3 z4
  obtain ⟨x0, x1, x2, x3, x4⟩ := Has.c4 (g := w.heap.size) (x := .int .i64 a) (y := .int .i64 b) (z := .int .i64 c) (u := .int .i64 d) (t := 25) T2.out (by simp)
  obtain ⟨y0, y1, y2, y3, y4⟩ := Has.c4 (g := w.heap.size + 1) (x := .int .i64 p) (y := .int .i64 q) (z := .int .i64 r) (u := .int .i64 s) (t := 25) T2.out (by simp)
  obtain ⟨z0, z1, z2, z3, z4⟩ := Has.c4 (g := w.heap.size + 1 + 1) (x := .int .i64 u1) (y := .int .i64 u2) (z := .int .i64 u3) (u := .int .i64 u4) (t := 25) T2.out (by simp)
  go_wp2_with fail
  with_reducible refine ((K3.out) _).mono ?_
  rintro e w3 ⟨rfl, hb⟩
  have T3 := Lib.hid (T2.out.step hb)
  clear hb
  clear x0 x1 x2 x3 x4 y0 y1 y2 y3 y4 z0 z1 z2 z3 z4
  have T4 := Lib.hid (T3.out.alloc #[.func (.func 22) #[] #[], .func (.func 24) #[] #[], .func (.func 26) #[] #[]] 35)
  clear T3
  go_upto_region 4 with fail
  generalize w3.alloc (.cells #[.func (.func 22) #[] #[], .func (.func 24) #[] #[], .func (.func 26) #[] #[]] 35) = W4 at *
  generalize w3.heap.size = gf at *
  go_loopw [26] (fun vi wr => (vi = .int .i64 0 ∧ Hid (Has w ((gf, #[.func (.func 22) #[] #[], .func (.func 24) #[] #[], .func (.func 26) #[] #[]], 35) :: [(w.heap.size + 1 + 1, #[.int .i64 u1, .int .i64 u2, .int .i64 u3, .int .i64 u4], 25), (w.heap.size + 1, #[.int .i64 p, .int .i64 q, .int .i64 r, .int .i64 s], 25), (w.heap.size, #[.int .i64 a, .int .i64 b, .int .i64 c, .int .i64 d], 25)]) wr)) ∨ (vi = .int .i64 1 ∧ Hid (Has w ((gf, #[.func (.func 22) #[] #[], .func (.func 24) #[] #[], .func (.func 26) #[] #[]], 35) :: [(w.heap.size + 1 + 1, #[.int .i64 u1, .int .i64 u2, .int .i64 u3, .int .i64 u4], 25), (w.heap.size + 1, #[.int .i64 p, .int .i64 q, .int .i64 r, .int .i64 s], 25), (w.heap.size, #[.int .i64 a, .int .i64 b, .int .i64 c, .int .i64 d], 25)]) wr)) ∨ (vi = .int .i64 2 ∧ Hid (Has w ((gf, #[.func (.func 22) #[] #[], .func (.func 24) #[] #[], .func (.func 26) #[] #[]], 35) :: [(w.heap.size + 1 + 1, #[.int .i64 u1, .int .i64 u2, .int .i64 u3, .int .i64 u4], 25), (w.heap.size + 1, #[.int .i64 p, .int .i64 q, .int .i64 r, .int .i64 s], 25), (w.heap.size, #[.int .i64 a, .int .i64 b, .int .i64 c, .int .i64 d], 25)]) wr)) ∨ (vi = .int .i64 3 ∧ Hid (Has w ((gf, #[.func (.func 22) #[] #[], .func (.func 24) #[] #[], .func (.func 26) #[] #[]], 35) :: [(w.heap.size + 1 + 1, #[.int .i64 u1, .int .i64 u2, .int .i64 u3, .int .i64 u4], 25), (w.heap.size + 1, #[.int .i64 p, .int .i64 q, .int .i64 r, .int .i64 s], 25), (w.heap.size, #[.int .i64 a, .int .i64 b, .int .i64 c, .int .i64 d], 25)]) wr))) (fun vi _ => (3 - intOf vi).toNat)
  case atStart => exact Or.inl ⟨rfl, T4⟩
  case round =>
    clear T4
    rcases hrel with ⟨rfl, H⟩ | ⟨rfl, H⟩ | ⟨rfl, H⟩ | ⟨rfl, H⟩
    · clear mna mnb mnc mnd mne mnf mng mxa mxb mxc mxd mxe mxf mxg N1 N2 N3 N4 N5 ME K1 K2 K3 AW
      have hf0 : wr.cell? ⟨gf, 0, none⟩ = some (.func (.func 22) #[] #[]) := (cell_of_row _ _ _ _ _ _ (H.out.row (b := gf) (cs := #[.func (.func 22) #[] #[], .func (.func 24) #[] #[], .func (.func 26) #[] #[]]) (t := 35) (by simp))).trans rfl
      go_upto_region 6 with fail
      clear hf0
      obtain ⟨x0, x1, x2, x3, x4⟩ := Has.c4 (g := w.heap.size) (x := .int .i64 a) (y := .int .i64 b) (z := .int .i64 c) (u := .int .i64 d) (t := 25) H.out (by simp)
      obtain ⟨y0, y1, y2, y3, y4⟩ := Has.c4 (g := w.heap.size + 1) (x := .int .i64 p) (y := .int .i64 q) (z := .int .i64 r) (u := .int .i64 s) (t := 25) H.out (by simp)
      obtain ⟨z0, z1, z2, z3, z4⟩ := Has.c4 (g := w.heap.size + 1 + 1) (x := .int .i64 u1) (y := .int .i64 u2) (z := .int .i64 u3) (u := .int .i64 u4) (t := 25) H.out (by simp)
      have qx0 := cell_regrown x0
      have qx1 := cell_regrown x1
      have qx2 := cell_regrown x2
      have qx3 := cell_regrown x3
      have qy0 := cell_regrown y0
      have qy1 := cell_regrown y1
      have qy2 := cell_regrown y2
      have qy3 := cell_regrown y3
      have qz0 := cell_regrown z0
      have qz1 := cell_regrown z1
      have qz2 := cell_regrown z2
      have qz3 := cell_regrown z3
      clear x0 x1 x2 x3 x4 y0 y1 y2 y3 y4 z0 z1 z2 z3 z4
      have mixed : Try.prog.follows .mixedOrders = true := by kernel_rfl
      refine wp_region_quiet_below (by assumption) (by kernel_rfl) ?_
      quiet_step (fail)
      quiet_step (fail)
      quiet_step (fail)
      quiet_step (exact Calls.regrown_of (hua.out _))
      quiet_step (fail)
      quiet_step (fail)
      quiet_step (fail)
      quiet_step (exact Calls.regrown_of (hub.out _))
      quiet_step (fail)
      quiet_step (fail)
      quiet_step (fail)
      quiet_step (fail)
      quiet_step (fail)
      quiet_step (fail)
      quiet_step (exact Calls.regrown_of (hua.out _))
      quiet_step (fail)
      quiet_step (exact Calls.regrown_of (huc.out _))
      quiet_step (fail)
      quiet_step (fail)
      quiet_step (fail)
      quiet_step (fail)
      quiet_step (fail)
      quiet_step (exact Calls.regrown_of (hud.out _))
      quiet_step (exact Calls.regrown_of (hue.out _))
      quiet_step (fail)
      quiet_step (fail)
      quiet_step (fail)
      quiet_step (fail)
      quiet_step (fail)
      quiet_step (fail)
      quiet_step (exact Calls.regrown_of (huf.out _))
      quiet_step (fail)
      quiet_step (fail)
      quiet_step (fail)
      quiet_step (fail)
      quiet_step (fail)
      quiet_step (fail)
      quiet_step (fail)
      quiet_step (exact Calls.regrown_of (hua.out _))
      quiet_step (exact Calls.regrown_of (hug.out _))
      quiet_step (fail)
      quiet_step (fail)
      refine wpQuiet_nil ?_
      intro _ hw'
      obtain ⟨⟨dq, osq⟩, hw''⟩ := hw'
      subst hw''
      have HZ := Lib.hid (H.out.step (below_regrown wr dq osq))
      generalize grow (redrawn wr dq) osq = WZ at *
      go_wp2_with fail
      go_roundw
      case rel => exact Or.inr (Or.inl ⟨(by first | rfl | trivial), HZ⟩)
      case measure => simp [intOf]
    · clear hua hub huc hud hue huf hug mxa mxb mxc mxd mxe mxf mxg N1 N2 N3 N4 N5 ME K1 K2 K3 AW
      have hf0 : wr.cell? ⟨gf, 1, none⟩ = some (.func (.func 24) #[] #[]) := (cell_of_row _ _ _ _ _ _ (H.out.row (b := gf) (cs := #[.func (.func 22) #[] #[], .func (.func 24) #[] #[], .func (.func 26) #[] #[]]) (t := 35) (by simp))).trans rfl
      go_upto_region 6 with fail
      clear hf0
      obtain ⟨x0, x1, x2, x3, x4⟩ := Has.c4 (g := w.heap.size) (x := .int .i64 a) (y := .int .i64 b) (z := .int .i64 c) (u := .int .i64 d) (t := 25) H.out (by simp)
      obtain ⟨y0, y1, y2, y3, y4⟩ := Has.c4 (g := w.heap.size + 1) (x := .int .i64 p) (y := .int .i64 q) (z := .int .i64 r) (u := .int .i64 s) (t := 25) H.out (by simp)
      obtain ⟨z0, z1, z2, z3, z4⟩ := Has.c4 (g := w.heap.size + 1 + 1) (x := .int .i64 u1) (y := .int .i64 u2) (z := .int .i64 u3) (u := .int .i64 u4) (t := 25) H.out (by simp)
      have qx0 := cell_regrown x0
      have qx1 := cell_regrown x1
      have qx2 := cell_regrown x2
      have qx3 := cell_regrown x3
      have qy0 := cell_regrown y0
      have qy1 := cell_regrown y1
      have qy2 := cell_regrown y2
      have qy3 := cell_regrown y3
      have qz0 := cell_regrown z0
      have qz1 := cell_regrown z1
      have qz2 := cell_regrown z2
      have qz3 := cell_regrown z3
      clear x0 x1 x2 x3 x4 y0 y1 y2 y3 y4 z0 z1 z2 z3 z4
      have mixed : Try.prog.follows .mixedOrders = true := by kernel_rfl
      refine wp_region_quiet_below (by assumption) (by kernel_rfl) ?_
      quiet_step (fail)
      quiet_step (fail)
      quiet_step (fail)
      quiet_step (exact Calls.regrown_of (mna.out _))
      quiet_step (fail)
      quiet_step (fail)
      quiet_step (fail)
      quiet_step (exact Calls.regrown_of (mnb.out _))
      quiet_step (fail)
      quiet_step (fail)
      quiet_step (fail)
      quiet_step (fail)
      quiet_step (fail)
      quiet_step (fail)
      quiet_step (exact Calls.regrown_of (mna.out _))
      quiet_step (fail)
      quiet_step (exact Calls.regrown_of (mnc.out _))
      quiet_step (fail)
      quiet_step (fail)
      quiet_step (fail)
      quiet_step (fail)
      quiet_step (fail)
      quiet_step (exact Calls.regrown_of (mnd.out _))
      quiet_step (exact Calls.regrown_of (mne.out _))
      quiet_step (fail)
      quiet_step (fail)
      quiet_step (fail)
      quiet_step (fail)
      quiet_step (fail)
      quiet_step (fail)
      quiet_step (exact Calls.regrown_of (mnf.out _))
      quiet_step (fail)
      quiet_step (fail)
      quiet_step (fail)
      quiet_step (fail)
      quiet_step (fail)
      quiet_step (fail)
      quiet_step (fail)
      quiet_step (exact Calls.regrown_of (mna.out _))
      quiet_step (exact Calls.regrown_of (mng.out _))
      quiet_step (fail)
      quiet_step (fail)
      refine wpQuiet_nil ?_
      intro _ hw'
      obtain ⟨⟨dq, osq⟩, hw''⟩ := hw'
      subst hw''
      have HZ := Lib.hid (H.out.step (below_regrown wr dq osq))
      generalize grow (redrawn wr dq) osq = WZ at *
      go_wp2_with fail
      go_roundw
      case rel => exact Or.inr (Or.inr (Or.inl ⟨(by first | rfl | trivial), HZ⟩))
      case measure => simp [intOf]
    · clear hua hub huc hud hue huf hug mna mnb mnc mnd mne mnf mng N1 N2 N3 N4 N5 ME K1 K2 K3 AW
      have hf0 : wr.cell? ⟨gf, 2, none⟩ = some (.func (.func 26) #[] #[]) := (cell_of_row _ _ _ _ _ _ (H.out.row (b := gf) (cs := #[.func (.func 22) #[] #[], .func (.func 24) #[] #[], .func (.func 26) #[] #[]]) (t := 35) (by simp))).trans rfl
      go_upto_region 6 with fail
      clear hf0
      obtain ⟨x0, x1, x2, x3, x4⟩ := Has.c4 (g := w.heap.size) (x := .int .i64 a) (y := .int .i64 b) (z := .int .i64 c) (u := .int .i64 d) (t := 25) H.out (by simp)
      obtain ⟨y0, y1, y2, y3, y4⟩ := Has.c4 (g := w.heap.size + 1) (x := .int .i64 p) (y := .int .i64 q) (z := .int .i64 r) (u := .int .i64 s) (t := 25) H.out (by simp)
      obtain ⟨z0, z1, z2, z3, z4⟩ := Has.c4 (g := w.heap.size + 1 + 1) (x := .int .i64 u1) (y := .int .i64 u2) (z := .int .i64 u3) (u := .int .i64 u4) (t := 25) H.out (by simp)
      have qx0 := cell_regrown x0
      have qx1 := cell_regrown x1
      have qx2 := cell_regrown x2
      have qx3 := cell_regrown x3
      have qy0 := cell_regrown y0
      have qy1 := cell_regrown y1
      have qy2 := cell_regrown y2
      have qy3 := cell_regrown y3
      have qz0 := cell_regrown z0
      have qz1 := cell_regrown z1
      have qz2 := cell_regrown z2
      have qz3 := cell_regrown z3
      clear x0 x1 x2 x3 x4 y0 y1 y2 y3 y4 z0 z1 z2 z3 z4
      have mixed : Try.prog.follows .mixedOrders = true := by kernel_rfl
      refine wp_region_quiet_below (by assumption) (by kernel_rfl) ?_
      quiet_step (fail)
      quiet_step (fail)
      quiet_step (fail)
      quiet_step (exact Calls.regrown_of (mxa.out _))
      quiet_step (fail)
      quiet_step (fail)
      quiet_step (fail)
      quiet_step (exact Calls.regrown_of (mxb.out _))
      quiet_step (fail)
      quiet_step (fail)
      quiet_step (fail)
      quiet_step (fail)
      quiet_step (fail)
      quiet_step (fail)
      quiet_step (exact Calls.regrown_of (mxa.out _))
      quiet_step (fail)
      quiet_step (exact Calls.regrown_of (mxc.out _))
      quiet_step (fail)
      quiet_step (fail)
      quiet_step (fail)
      quiet_step (fail)
      quiet_step (fail)
      quiet_step (exact Calls.regrown_of (mxd.out _))
      quiet_step (exact Calls.regrown_of (mxe.out _))
      quiet_step (fail)
      quiet_step (fail)
      quiet_step (fail)
      quiet_step (fail)
      quiet_step (fail)
      quiet_step (fail)
      quiet_step (exact Calls.regrown_of (mxf.out _))
      quiet_step (fail)
      quiet_step (fail)
      quiet_step (fail)
      quiet_step (fail)
      quiet_step (fail)
      quiet_step (fail)
      quiet_step (fail)
      quiet_step (exact Calls.regrown_of (mxa.out _))
      quiet_step (exact Calls.regrown_of (mxg.out _))
      quiet_step (fail)
      quiet_step (fail)
      refine wpQuiet_nil ?_
      intro _ hw'
      obtain ⟨⟨dq, osq⟩, hw''⟩ := hw'
      subst hw''
      have HZ := Lib.hid (H.out.step (below_regrown wr dq osq))
      generalize grow (redrawn wr dq) osq = WZ at *
      go_wp2_with fail
      go_roundw
      case rel => exact Or.inr (Or.inr (Or.inr ⟨(by first | rfl | trivial), HZ⟩))
      case measure => simp [intOf]
    · clear K1 K2 K3 hub huc hud hue huf hug mna mnb mnc mnd mne mnf mng mxb mxc mxd mxe mxf mxg
      skip
      have T4 := Lib.hid (H.out.sub (M := [(w.heap.size + 1 + 1, #[.int .i64 u1, .int .i64 u2, .int .i64 u3, .int .i64 u4], 25), (w.heap.size + 1, #[.int .i64 p, .int .i64 q, .int .i64 r, .int .i64 s], 25), (w.heap.size, #[.int .i64 a, .int .i64 b, .int .i64 c, .int .i64 d], 25)]) (by intro x hx; exact List.mem_cons_of_mem _ hx))
      clear H
      obtain ⟨x0, x1, x2, x3, x4⟩ := Has.c4 (g := w.heap.size) (x := .int .i64 a) (y := .int .i64 b) (z := .int .i64 c) (u := .int .i64 d) (t := 25) T4.out (by simp)
      obtain ⟨y0, y1, y2, y3, y4⟩ := Has.c4 (g := w.heap.size + 1) (x := .int .i64 p) (y := .int .i64 q) (z := .int .i64 r) (u := .int .i64 s) (t := 25) T4.out (by simp)
      obtain ⟨z0, z1, z2, z3, z4⟩ := Has.c4 (g := w.heap.size + 1 + 1) (x := .int .i64 u1) (y := .int .i64 u2) (z := .int .i64 u3) (u := .int .i64 u4) (t := 25) T4.out (by simp)
      go_wp2_with fail
      with_reducible refine ((hua.out) _).mono ?_
      rintro e w5 ⟨rfl, hb⟩
      have T5 := Lib.hid (T4.out.step hb)
      clear hb
      clear x0 x1 x2 x3 x4 y0 y1 y2 y3 y4 z0 z1 z2 z3 z4
      have T6 := Lib.hid (T5.out.alloc #[.int .i64 hum0, .int .i64 hum1, .int .i64 hum2, .int .i64 hum3] 25)
      clear T5 hua
      go_upto_region 10 with fail
      generalize w5.alloc (.cells #[.int .i64 hum0, .int .i64 hum1, .int .i64 hum2, .int .i64 hum3] 25) = W6 at *
      generalize w5.heap.size = gh at *
      obtain ⟨x0, x1, x2, x3, x4⟩ := Has.c4 (g := w.heap.size) (x := .int .i64 a) (y := .int .i64 b) (z := .int .i64 c) (u := .int .i64 d) (t := 25) T6.out (by simp)
      obtain ⟨y0, y1, y2, y3, y4⟩ := Has.c4 (g := w.heap.size + 1) (x := .int .i64 p) (y := .int .i64 q) (z := .int .i64 r) (u := .int .i64 s) (t := 25) T6.out (by simp)
      obtain ⟨z0, z1, z2, z3, z4⟩ := Has.c4 (g := w.heap.size + 1 + 1) (x := .int .i64 u1) (y := .int .i64 u2) (z := .int .i64 u3) (u := .int .i64 u4) (t := 25) T6.out (by simp)
      obtain ⟨h0, h1, h2, h3, h4⟩ := Has.c4 (g := gh) (x := .int .i64 hum0) (y := .int .i64 hum1) (z := .int .i64 hum2) (u := .int .i64 hum3) (t := 25) T6.out (by simp)
      have qx0 := cell_regrown x0
      have qx1 := cell_regrown x1
      have qx2 := cell_regrown x2
      have qx3 := cell_regrown x3
      have qy0 := cell_regrown y0
      have qy1 := cell_regrown y1
      have qy2 := cell_regrown y2
      have qy3 := cell_regrown y3
      have qz0 := cell_regrown z0
      have qz1 := cell_regrown z1
      have qz2 := cell_regrown z2
      have qz3 := cell_regrown z3
      have qh0 := cell_regrown h0
      have qh1 := cell_regrown h1
      have qh2 := cell_regrown h2
      have qh3 := cell_regrown h3
      clear x0 x1 x2 x3 x4 y0 y1 y2 y3 y4 z0 z1 z2 z3 z4 h0 h1 h2 h3 h4
      rcases (show (cx = false ∧ (cx && cy) = false) ∨ (cx = true ∧ cy = false) ∨ (cx = true ∧ cy = true) by cases cx <;> cases cy <;> simp) with ⟨rfl, hcc⟩ | ⟨rfl, rfl⟩ | ⟨rfl, rfl⟩
      · rw [hcc] at N3
        as_aux_lemma =>
          have mixed : Try.prog.follows .mixedOrders = true := by kernel_rfl
          refine wp_region_quiet_below (by assumption) (by kernel_rfl) ?_
          quiet_step (fail)
          quiet_step (fail)
          quiet_step (exact Calls.regrown_of (N1.out _))
          quiet_step (fail)
          quiet_step (fail)
          quiet_step (fail)
          quiet_step (exact Calls.regrown_of (N2.out _))
          quiet_step (fail)
          quiet_step (fail)
          quiet_step (fail)
          quiet_step (fail)
          quiet_step (exact Calls.regrown_of (N3.out _))
          quiet_step (fail)
          quiet_step (fail)
          quiet_step (exact Calls.regrown_of (N4.out _))
          quiet_step (fail)
          quiet_step (fail)
          quiet_step (fail)
          quiet_step (fail)
          quiet_step (fail)
          quiet_step (fail)
          quiet_step (fail)
          quiet_step (fail)
          quiet_step (fail)
          quiet_step (fail)
          quiet_step (fail)
          quiet_step (exact Calls.regrown_of (mxa.out _))
          quiet_step (exact Calls.regrown_of (ME.out _))
          quiet_step (fail)
          quiet_step (fail)
          quiet_step (fail)
          quiet_step (fail)
          quiet_step (exact Calls.regrown_of (AW.out _))
          quiet_step (fail)
          quiet_step (fail)
          refine wpQuiet_nil ?_
          intro _ hw'
          obtain ⟨⟨dq, osq⟩, hw''⟩ := hw'
          subst hw''
          have TZ := T6.out.1.trans ((below_regrown W6 dq osq).mono T6.out.1.size)
          go_wp2
          go_ret
          exact ⟨rfl, TZ⟩
      · rw [show (true && false) = false from rfl] at N3
        as_aux_lemma =>
          have mixed : Try.prog.follows .mixedOrders = true := by kernel_rfl
          refine wp_region_quiet_below (by assumption) (by kernel_rfl) ?_
          quiet_step (fail)
          quiet_step (fail)
          quiet_step (exact Calls.regrown_of (N1.out _))
          quiet_step (fail)
          quiet_step (fail)
          quiet_step (fail)
          quiet_step (exact Calls.regrown_of (N2.out _))
          quiet_step (fail)
          quiet_step (fail)
          quiet_step (fail)
          quiet_step (fail)
          quiet_step (exact Calls.regrown_of (N3.out _))
          quiet_step (fail)
          quiet_step (fail)
          quiet_step (exact Calls.regrown_of (N4.out _))
          quiet_step (fail)
          quiet_step (fail)
          quiet_step (fail)
          quiet_step (exact Calls.regrown_of (N5.out _))
          quiet_step (fail)
          quiet_step (fail)
          quiet_step (fail)
          quiet_step (fail)
          quiet_step (fail)
          quiet_step (fail)
          quiet_step (fail)
          quiet_step (exact Calls.regrown_of (mxa.out _))
          quiet_step (exact Calls.regrown_of (ME.out _))
          quiet_step (fail)
          quiet_step (fail)
          quiet_step (fail)
          quiet_step (fail)
          quiet_step (exact Calls.regrown_of (AW.out _))
          quiet_step (fail)
          quiet_step (fail)
          refine wpQuiet_nil ?_
          intro _ hw'
          obtain ⟨⟨dq, osq⟩, hw''⟩ := hw'
          subst hw''
          have TZ := T6.out.1.trans ((below_regrown W6 dq osq).mono T6.out.1.size)
          go_wp2
          go_ret
          exact ⟨rfl, TZ⟩
      · rw [show (true && true) = true from rfl] at N3
        as_aux_lemma =>
          have mixed : Try.prog.follows .mixedOrders = true := by kernel_rfl
          refine wp_region_quiet_below (by assumption) (by kernel_rfl) ?_
          quiet_step (fail)
          quiet_step (fail)
          quiet_step (exact Calls.regrown_of (N1.out _))
          quiet_step (fail)
          quiet_step (fail)
          quiet_step (fail)
          quiet_step (exact Calls.regrown_of (N2.out _))
          quiet_step (fail)
          quiet_step (fail)
          quiet_step (fail)
          quiet_step (fail)
          quiet_step (exact Calls.regrown_of (N3.out _))
          quiet_step (fail)
          quiet_step (fail)
          quiet_step (exact Calls.regrown_of (N4.out _))
          quiet_step (fail)
          quiet_step (fail)
          quiet_step (fail)
          quiet_step (exact Calls.regrown_of (N5.out _))
          quiet_step (fail)
          quiet_step (fail)
          quiet_step (fail)
          quiet_step (fail)
          quiet_step (fail)
          quiet_step (fail)
          quiet_step (fail)
          quiet_step (exact Calls.regrown_of (mxa.out _))
          quiet_step (exact Calls.regrown_of (ME.out _))
          quiet_step (fail)
          quiet_step (fail)
          quiet_step (fail)
          quiet_step (fail)
          quiet_step (exact Calls.regrown_of (AW.out _))
          quiet_step (fail)
          quiet_step (fail)
          refine wpQuiet_nil ?_
          intro _ hw'
          obtain ⟨⟨dq, osq⟩, hw''⟩ := hw'
          subst hw''
          have TZ := T6.out.1.trans ((below_regrown W6 dq osq).mono T6.out.1.size)
          go_wp2
          go_ret
          exact ⟨rfl, TZ⟩
end Go.Proofs.Ytbiegbnncnjnmaa.Iv
