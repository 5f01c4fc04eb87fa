/- The walk of the law IntervalCheck. The walk of the law IntervalOrder. The helpers of the laws of layer 4: whole, in, awake. The helpers of the laws of layer 4: arithmetic, reference, single; the walk of IntervalArithmetic. -/
import Derived.Test.YtbiegbnncnjnmaaMIb
set_option linter.unusedVariables false
set_option linter.unusedSimpArgs false
namespace Go.Proofs.Ytbiegbnncnjnmaa.Iv
open Go.RowKit
open Go.Proofs.Ytbiegbnncnjnmaa.Pro

/-- Two arguments and two results stand. -/
structure LA (w : World) (g1 g2 : Nat) (a b c d p q r s x y : Int) (V : World) : Prop where
  has : Has w [(g2, #[.int .i64 x, .int .i64 y], 23), (g1, #[.int .i64 x, .int .i64 y], 23), (w.heap.size + 1, #[.int .i64 p, .int .i64 q, .int .i64 r, .int .i64 s], 25), (w.heap.size, #[.int .i64 a, .int .i64 b, .int .i64 c, .int .i64 d], 25)] V
structure LAk (w : World) (g1 g2 : Nat) (a b c d p q r s x y : Int) (V : World) : Prop where
  out : LA w g1 g2 a b c d p q r s x y V
theorem LA.drew {w V : World} {g1 g2 : Nat} {a b c d p q r s x y : Int} (h : LA w g1 g2 a b c d p q r s x y V) : LA w g1 g2 a b c d p q r s x y V.drew := ⟨h.has.drew⟩
theorem LA.step {w V V2 : World} {g1 g2 : Nat} {a b c d p q r s x y : Int} (hb : Below V.heap.size V V2) (h : LA w g1 g2 a b c d p q r s x y V) : LA w g1 g2 a b c d p q r s x y V2 := ⟨h.has.step hb⟩
theorem LA.all {w V : World} {g1 g2 : Nat} {a b c d p q r s x y : Int} (h : LA w g1 g2 a b c d p q r s x y V) : LA w g1 g2 a b c d p q r s x y V ∧ V.cell? ⟨w.heap.size, 0, none⟩ = some (.int .i64 a) ∧ V.cell? ⟨w.heap.size, 1, none⟩ = some (.int .i64 b) ∧ V.cell? ⟨w.heap.size, 2, none⟩ = some (.int .i64 c) ∧ V.cell? ⟨w.heap.size, 3, none⟩ = some (.int .i64 d) ∧ V.cell? ⟨w.heap.size + 1, 0, none⟩ = some (.int .i64 p) ∧ V.cell? ⟨w.heap.size + 1, 1, none⟩ = some (.int .i64 q) ∧ V.cell? ⟨w.heap.size + 1, 2, none⟩ = some (.int .i64 r) ∧ V.cell? ⟨w.heap.size + 1, 3, none⟩ = some (.int .i64 s) ∧ V.cell? ⟨g1, 0, none⟩ = some (.int .i64 x) ∧ V.cell? ⟨g1, 1, none⟩ = some (.int .i64 y) ∧ V.cell? ⟨g2, 0, none⟩ = some (.int .i64 x) ∧ V.cell? ⟨g2, 1, none⟩ = some (.int .i64 y) :=
  have h1 := Has.c4 (g := w.heap.size) (x := .int .i64 a) (y := .int .i64 b) (z := .int .i64 c) (u := .int .i64 d) (t := 25) h.has (by simp)
  have h2 := Has.c4 (g := w.heap.size + 1) (x := .int .i64 p) (y := .int .i64 q) (z := .int .i64 r) (u := .int .i64 s) (t := 25) h.has (by simp)
  have h3 := cells2 (h.has.row (b := g1) (cs := #[.int .i64 x, .int .i64 y]) (t := 23) (by simp))
  have h4 := cells2 (h.has.row (b := g2) (cs := #[.int .i64 x, .int .i64 y]) (t := 23) (by simp))
  ⟨h, h1.1, h1.2.1, h1.2.2.1, h1.2.2.2.1, h2.1, h2.2.1, h2.2.2.1, h2.2.2.2.1, h3.1, h3.2, h4.1, h4.2⟩
set_option maxHeartbeats 4000000 in
set_option maxRecDepth 100000 in
theorem claw_raw (a b c d p q r s x y ev ce : Int) (n : Bool)
    (W1 : Hid (∀ w : World, Calls Try.prog 11 #[.agg #[.int .i64 a, .int .i64 b, .int .i64 c, .int .i64 d]] w fun e w' => e = .returned (.tuple #[.agg #[.int .i64 x, .int .i64 y], .int .i64 ev]) ∧ Below w.heap.size w w'))
    (W2 : Hid (∀ w : World, Calls Try.prog 12 #[.agg #[.int .i64 a, .int .i64 b, .int .i64 c, .int .i64 d]] w fun e w' => e = .returned (.tuple #[.agg #[.int .i64 x, .int .i64 y], .int .i64 ev]) ∧ Below w.heap.size w w'))
    (C1 : Hid (∀ w : World, Calls Try.prog 13 #[.agg #[.int .i64 a, .int .i64 b, .int .i64 c, .int .i64 d]] w fun e w' => e = .returned (.int .i64 ce) ∧ Below w.heap.size w w'))
    (C2 : Hid (∀ w : World, Calls Try.prog 14 #[.agg #[.int .i64 a, .int .i64 b, .int .i64 c, .int .i64 d]] w fun e w' => e = .returned (.int .i64 ce) ∧ Below w.heap.size w w'))
    (P1 : Hid (∀ w : World, Calls Try.prog 15 #[.agg #[.int .i64 a, .int .i64 b]] w fun e w' => e = .returned (.agg #[.int .i64 a, .int .i64 b, .int .i64 a, .int .i64 b]) ∧ Below w.heap.size w w'))
    (P2 : Hid (∀ w : World, Calls Try.prog 16 #[.agg #[.int .i64 a, .int .i64 b]] w fun e w' => e = .returned (.agg #[.int .i64 a, .int .i64 b, .int .i64 a, .int .i64 b]) ∧ Below w.heap.size w w'))
    (N1 : Hid (∀ w : World, Calls Try.prog 17 #[.agg #[.int .i64 a, .int .i64 b, .int .i64 c, .int .i64 d], .agg #[.int .i64 p, .int .i64 q, .int .i64 r, .int .i64 s]] w fun e w' => e = .returned (.bool n) ∧ Below w.heap.size w w'))
    (N2 : Hid (∀ w : World, Calls Try.prog 18 #[.agg #[.int .i64 a, .int .i64 b, .int .i64 c, .int .i64 d], .agg #[.int .i64 p, .int .i64 q, .int .i64 r, .int .i64 s]] w fun e w' => e = .returned (.bool n) ∧ Below w.heap.size w w'))
    (AW : Hid (∀ w : World, Calls Try.prog 19 #[] w fun e w' => e = .returned (.bool true) ∧ Below w.heap.size w w'))
    (w : World) : Calls Try.prog 3 #[.agg #[.int .i64 a, .int .i64 b, .int .i64 c, .int .i64 d], .agg #[.int .i64 p, .int .i64 q, .int .i64 r, .int .i64 s]] w fun e w' => e = .returned (.bool true) ∧ Below w.heap.size w w' := by
  have T0 := Lib.hid (two0 w #[.int .i64 a, .int .i64 b, .int .i64 c, .int .i64 d] #[.int .i64 p, .int .i64 q, .int .i64 r, .int .i64 s] 25 25)
  go_enter Try.func3, Try.ntmps3
  go_wp2_with fail
  with_reducible refine (W1.out _).mono ?_
  rintro e w1 ⟨rfl, hb⟩
  have T1 := Lib.hid ((T0.out.step hb).alloc #[.int .i64 x, .int .i64 y] 23)
  clear hb T0 W1
  go_upto_region 2 with fail
  generalize w1.alloc (.cells #[.int .i64 x, .int .i64 y] 23) = y1 at *
  generalize w1.heap.size = g1 at *
  obtain ⟨h0, h1, h2, h3, h4⟩ := Has.c4 (g := w.heap.size) (x := .int .i64 a) (y := .int .i64 b) (z := .int .i64 c) (u := .int .i64 d) (t := 25) T1.out (by simp)
  go_wp2_with fail
  with_reducible refine (W2.out _).mono ?_
  rintro e w2 ⟨rfl, hb⟩
  have T2 := Lib.hid ((T1.out.step hb).alloc #[.int .i64 x, .int .i64 y] 23)
  clear hb T1 W2 h0 h1 h2 h3 h4
  go_upto_region 3 with fail
  generalize w2.alloc (.cells #[.int .i64 x, .int .i64 y] 23) = y2 at *
  generalize w2.heap.size = g2 at *
  have hk1 := LAk.mk (LA.mk T2.out)
  clear T2
  have h0 := hk1.out.all
  go_region_held3 (fun V => LA w g1 g2 a b c d p q r s x y V ∧ V.cell? ⟨w.heap.size, 0, none⟩ = some (.int .i64 a) ∧ V.cell? ⟨w.heap.size, 1, none⟩ = some (.int .i64 b) ∧ V.cell? ⟨w.heap.size, 2, none⟩ = some (.int .i64 c) ∧ V.cell? ⟨w.heap.size, 3, none⟩ = some (.int .i64 d) ∧ V.cell? ⟨w.heap.size + 1, 0, none⟩ = some (.int .i64 p) ∧ V.cell? ⟨w.heap.size + 1, 1, none⟩ = some (.int .i64 q) ∧ V.cell? ⟨w.heap.size + 1, 2, none⟩ = some (.int .i64 r) ∧ V.cell? ⟨w.heap.size + 1, 3, none⟩ = some (.int .i64 s) ∧ V.cell? ⟨g1, 0, none⟩ = some (.int .i64 x) ∧ V.cell? ⟨g1, 1, none⟩ = some (.int .i64 y) ∧ V.cell? ⟨g2, 0, none⟩ = some (.int .i64 x) ∧ V.cell? ⟨g2, 1, none⟩ = some (.int .i64 y))
    ((refine LA.all ?_; (with_reducible repeat (first | exact LAk.out (by assumption) | apply LA.drew))))
    (first
      | (go_at_call 13; (with_reducible refine (C1.out _).mono ?_); rintro e w' ⟨rfl, hb⟩; (have hk := LAk.mk (LA.step hb (by (with_reducible repeat (first | exact LAk.out (by assumption) | apply LA.drew))))))
      | (go_at_call 14; (with_reducible refine (C2.out _).mono ?_); rintro e w' ⟨rfl, hb⟩; (have hk := LAk.mk (LA.step hb (by (with_reducible repeat (first | exact LAk.out (by assumption) | apply LA.drew))))))
      | (go_at_call 15; (with_reducible refine (P1.out _).mono ?_); rintro e w' ⟨rfl, hb⟩; (have hk := LAk.mk (LA.step hb (by (with_reducible repeat (first | exact LAk.out (by assumption) | apply LA.drew))))))
      | (go_at_call 16; (with_reducible refine (P2.out _).mono ?_); rintro e w' ⟨rfl, hb⟩; (have hk := LAk.mk (LA.step hb (by (with_reducible repeat (first | exact LAk.out (by assumption) | apply LA.drew))))))
      | (go_at_call 17; (with_reducible refine (N1.out _).mono ?_); rintro e w' ⟨rfl, hb⟩; (have hk := LAk.mk (LA.step hb (by (with_reducible repeat (first | exact LAk.out (by assumption) | apply LA.drew))))))
      | (go_at_call 18; (with_reducible refine (N2.out _).mono ?_); rintro e w' ⟨rfl, hb⟩; (have hk := LAk.mk (LA.step hb (by (with_reducible repeat (first | exact LAk.out (by assumption) | apply LA.drew))))))
      | (go_at_call 19; (with_reducible refine (AW.out _).mono ?_); rintro e w' ⟨rfl, hb⟩; (have hk := LAk.mk (LA.step hb (by (with_reducible repeat (first | exact LAk.out (by assumption) | apply LA.drew))))); (have HZ := Lib.hid hk)))
  go_wp2
  go_ret
  exact ⟨rfl, HZ.out.out.has.1⟩
end Go.Proofs.Ytbiegbnncnjnmaa.Iv
namespace Go.Proofs.Ytbiegbnncnjnmaa.Iv
open Go.RowKit
open Go.Proofs.Ytbiegbnncnjnmaa.Pro

/-- The two arguments stand. -/
structure LB (w : World) (a b c d p q r s : Int) (V : World) : Prop where
  has : Has w [(w.heap.size + 1, #[.int .i64 p, .int .i64 q, .int .i64 r, .int .i64 s], 25), (w.heap.size, #[.int .i64 a, .int .i64 b, .int .i64 c, .int .i64 d], 25)] V
structure LBk (w : World) (a b c d p q r s : Int) (V : World) : Prop where
  out : LB w a b c d p q r s V
theorem LB.drew {w V : World} {a b c d p q r s : Int} (h : LB w a b c d p q r s V) : LB w a b c d p q r s V.drew := ⟨h.has.drew⟩
theorem LB.step {w V V2 : World} {a b c d p q r s : Int} (hb : Below V.heap.size V V2) (h : LB w a b c d p q r s V) : LB w a b c d p q r s V2 := ⟨h.has.step hb⟩
theorem LB.all {w V : World} {a b c d p q r s : Int} (h : LB w a b c d p q r s V) : LB w a b c d p q r s V ∧ V.cell? ⟨w.heap.size, 0, none⟩ = some (.int .i64 a) ∧ V.cell? ⟨w.heap.size, 1, none⟩ = some (.int .i64 b) ∧ V.cell? ⟨w.heap.size, 2, none⟩ = some (.int .i64 c) ∧ V.cell? ⟨w.heap.size, 3, none⟩ = some (.int .i64 d) ∧ V.cell? ⟨w.heap.size + 1, 0, none⟩ = some (.int .i64 p) ∧ V.cell? ⟨w.heap.size + 1, 1, none⟩ = some (.int .i64 q) ∧ V.cell? ⟨w.heap.size + 1, 2, none⟩ = some (.int .i64 r) ∧ V.cell? ⟨w.heap.size + 1, 3, none⟩ = some (.int .i64 s) :=
  have h1 := Has.c4 (g := w.heap.size) (x := .int .i64 a) (y := .int .i64 b) (z := .int .i64 c) (u := .int .i64 d) (t := 25) h.has (by simp)
  have h2 := Has.c4 (g := w.heap.size + 1) (x := .int .i64 p) (y := .int .i64 q) (z := .int .i64 r) (u := .int .i64 s) (t := 25) h.has (by simp)
  ⟨h, h1.1, h1.2.1, h1.2.2.1, h1.2.2.2.1, h2.1, h2.2.1, h2.2.2.1, h2.2.2.2.1⟩
set_option maxHeartbeats 4000000 in
set_option maxRecDepth 100000 in
theorem olaw_raw (op a b c d p q r s h1 h2 h3 h4 m1 m2 m3 m4 x1 x2 x3 x4 k : Int)
    (H1 : Hid (∀ w : World, Calls Try.prog 22 #[.agg #[.int .i64 a, .int .i64 b, .int .i64 c, .int .i64 d], .agg #[.int .i64 p, .int .i64 q, .int .i64 r, .int .i64 s]] w fun e w' => e = .returned (.agg #[.int .i64 h1, .int .i64 h2, .int .i64 h3, .int .i64 h4]) ∧ Below w.heap.size w w'))
    (H2 : Hid (∀ w : World, Calls Try.prog 23 #[.agg #[.int .i64 a, .int .i64 b, .int .i64 c, .int .i64 d], .agg #[.int .i64 p, .int .i64 q, .int .i64 r, .int .i64 s]] w fun e w' => e = .returned (.agg #[.int .i64 h1, .int .i64 h2, .int .i64 h3, .int .i64 h4]) ∧ Below w.heap.size w w'))
    (N1 : Hid (∀ w : World, Calls Try.prog 24 #[.agg #[.int .i64 a, .int .i64 b, .int .i64 c, .int .i64 d], .agg #[.int .i64 p, .int .i64 q, .int .i64 r, .int .i64 s]] w fun e w' => e = .returned (.agg #[.int .i64 m1, .int .i64 m2, .int .i64 m3, .int .i64 m4]) ∧ Below w.heap.size w w'))
    (N2 : Hid (∀ w : World, Calls Try.prog 25 #[.agg #[.int .i64 a, .int .i64 b, .int .i64 c, .int .i64 d], .agg #[.int .i64 p, .int .i64 q, .int .i64 r, .int .i64 s]] w fun e w' => e = .returned (.agg #[.int .i64 m1, .int .i64 m2, .int .i64 m3, .int .i64 m4]) ∧ Below w.heap.size w w'))
    (M1 : Hid (∀ w : World, Calls Try.prog 26 #[.agg #[.int .i64 a, .int .i64 b, .int .i64 c, .int .i64 d], .agg #[.int .i64 p, .int .i64 q, .int .i64 r, .int .i64 s]] w fun e w' => e = .returned (.agg #[.int .i64 x1, .int .i64 x2, .int .i64 x3, .int .i64 x4]) ∧ Below w.heap.size w w'))
    (M2 : Hid (∀ w : World, Calls Try.prog 27 #[.agg #[.int .i64 a, .int .i64 b, .int .i64 c, .int .i64 d], .agg #[.int .i64 p, .int .i64 q, .int .i64 r, .int .i64 s]] w fun e w' => e = .returned (.agg #[.int .i64 x1, .int .i64 x2, .int .i64 x3, .int .i64 x4]) ∧ Below w.heap.size w w'))
    (C1 : Hid (∀ w : World, Calls Try.prog 28 #[.int .i64 op, .agg #[.int .i64 a, .int .i64 b, .int .i64 c, .int .i64 d], .agg #[.int .i64 p, .int .i64 q, .int .i64 r, .int .i64 s]] w fun e w' => e = .returned (.int .i64 k) ∧ Below w.heap.size w w'))
    (C2 : Hid (∀ w : World, Calls Try.prog 29 #[.int .i64 op, .agg #[.int .i64 a, .int .i64 b, .int .i64 c, .int .i64 d], .agg #[.int .i64 p, .int .i64 q, .int .i64 r, .int .i64 s]] w fun e w' => e = .returned (.int .i64 k) ∧ Below w.heap.size w w'))
    (AW : Hid (∀ w : World, Calls Try.prog 19 #[] w fun e w' => e = .returned (.bool true) ∧ Below w.heap.size w w'))
    (w : World) : Calls Try.prog 5 #[.int .i64 op, .agg #[.int .i64 a, .int .i64 b, .int .i64 c, .int .i64 d], .agg #[.int .i64 p, .int .i64 q, .int .i64 r, .int .i64 s]] w fun e w' => e = .returned (.bool true) ∧ Below w.heap.size w w' := by
  have T0 := Lib.hid (two0 w #[.int .i64 a, .int .i64 b, .int .i64 c, .int .i64 d] #[.int .i64 p, .int .i64 q, .int .i64 r, .int .i64 s] 25 25)
  go_enter Try.func5, Try.ntmps5
  go_upto_region 1 with fail
  generalize (w.alloc (.cells #[.int .i64 a, .int .i64 b, .int .i64 c, .int .i64 d] 25)).alloc (.cells #[.int .i64 p, .int .i64 q, .int .i64 r, .int .i64 s] 25) = y0 at *
  have hk1 := LBk.mk (LB.mk T0.out)
  clear T0
  have h0 := hk1.out.all
  go_region_held3 (fun V => LB w a b c d p q r s V ∧ V.cell? ⟨w.heap.size, 0, none⟩ = some (.int .i64 a) ∧ V.cell? ⟨w.heap.size, 1, none⟩ = some (.int .i64 b) ∧ V.cell? ⟨w.heap.size, 2, none⟩ = some (.int .i64 c) ∧ V.cell? ⟨w.heap.size, 3, none⟩ = some (.int .i64 d) ∧ V.cell? ⟨w.heap.size + 1, 0, none⟩ = some (.int .i64 p) ∧ V.cell? ⟨w.heap.size + 1, 1, none⟩ = some (.int .i64 q) ∧ V.cell? ⟨w.heap.size + 1, 2, none⟩ = some (.int .i64 r) ∧ V.cell? ⟨w.heap.size + 1, 3, none⟩ = some (.int .i64 s))
    ((refine LB.all ?_; (with_reducible repeat (first | exact LBk.out (by assumption) | apply LB.drew))))
    (first
      | (go_at_call 22; (with_reducible refine (H1.out _).mono ?_); rintro e w' ⟨rfl, hb⟩; (have hk := LBk.mk (LB.step hb (by (with_reducible repeat (first | exact LBk.out (by assumption) | apply LB.drew))))))
      | (go_at_call 23; (with_reducible refine (H2.out _).mono ?_); rintro e w' ⟨rfl, hb⟩; (have hk := LBk.mk (LB.step hb (by (with_reducible repeat (first | exact LBk.out (by assumption) | apply LB.drew))))))
      | (go_at_call 24; (with_reducible refine (N1.out _).mono ?_); rintro e w' ⟨rfl, hb⟩; (have hk := LBk.mk (LB.step hb (by (with_reducible repeat (first | exact LBk.out (by assumption) | apply LB.drew))))))
      | (go_at_call 25; (with_reducible refine (N2.out _).mono ?_); rintro e w' ⟨rfl, hb⟩; (have hk := LBk.mk (LB.step hb (by (with_reducible repeat (first | exact LBk.out (by assumption) | apply LB.drew))))))
      | (go_at_call 26; (with_reducible refine (M1.out _).mono ?_); rintro e w' ⟨rfl, hb⟩; (have hk := LBk.mk (LB.step hb (by (with_reducible repeat (first | exact LBk.out (by assumption) | apply LB.drew))))))
      | (go_at_call 27; (with_reducible refine (M2.out _).mono ?_); rintro e w' ⟨rfl, hb⟩; (have hk := LBk.mk (LB.step hb (by (with_reducible repeat (first | exact LBk.out (by assumption) | apply LB.drew))))))
      | (go_at_call 28; (with_reducible refine (C1.out _).mono ?_); rintro e w' ⟨rfl, hb⟩; (have hk := LBk.mk (LB.step hb (by (with_reducible repeat (first | exact LBk.out (by assumption) | apply LB.drew))))))
      | (go_at_call 29; (with_reducible refine (C2.out _).mono ?_); rintro e w' ⟨rfl, hb⟩; (have hk := LBk.mk (LB.step hb (by (with_reducible repeat (first | exact LBk.out (by assumption) | apply LB.drew))))))
      | (go_at_call 19; (with_reducible refine (AW.out _).mono ?_); rintro e w' ⟨rfl, hb⟩; (have hk := LBk.mk (LB.step hb (by (with_reducible repeat (first | exact LBk.out (by assumption) | apply LB.drew))))); (have HZ := Lib.hid hk)))
  go_wp2
  go_ret
  exact ⟨rfl, HZ.out.out.has.1⟩
end Go.Proofs.Ytbiegbnncnjnmaa.Iv
namespace Go.Proofs.Ytbiegbnncnjnmaa.Iv
open Go.RowKit
open Go.Proofs.Ytbiegbnncnjnmaa.Pro

set_option maxHeartbeats 1000000 in
theorem whole_raw (l h : Int) (w : World) : Calls Try.prog 43 #[.int .i64 l, .int .i64 h] w fun e w' => e = .returned (.agg #[.int .i64 l, .int .i64 1, .int .i64 h, .int .i64 1]) ∧ Below w.heap.size w w' := by
  have T0 := Lib.hid ((Has.start w).alloc #[.int .i64 l, .int .i64 1, .int .i64 h, .int .i64 1] 25)
  go_enter Try.func43, Try.ntmps43
  go_wp2
  refine bodyPost_ret (results_cell_row rfl _ _ (w.heap.size) 25 #[.int .i64 l, .int .i64 1, .int .i64 h, .int .i64 1] (0, 0) _ rfl (T0.out.row (by simp)) Try.underlying25 rfl info25) rfl ?_
  exact ⟨rfl, T0.out.1⟩
set_option maxHeartbeats 1000000 in
theorem in_raw (p q a b c d k1 k2 m1 m2 : Int)
    (K1 : Hid (∀ w : World, Calls Try.prog 38 #[.agg #[.int .i64 p, .int .i64 q]] w fun e w' => e = .returned (.int .i64 k1) ∧ Below w.heap.size w w'))
    (K2 : Hid (∀ w : World, Calls Try.prog 13 #[.agg #[.int .i64 a, .int .i64 b, .int .i64 c, .int .i64 d]] w fun e w' => e = .returned (.int .i64 k2) ∧ Below w.heap.size w w'))
    (M1 : Hid (∀ w : World, Calls Try.prog 39 #[.agg #[.int .i64 a, .int .i64 b], .agg #[.int .i64 p, .int .i64 q]] w fun e w' => e = .returned (.int .i64 m1) ∧ Below w.heap.size w w'))
    (M2 : Hid (∀ w : World, Calls Try.prog 39 #[.agg #[.int .i64 p, .int .i64 q], .agg #[.int .i64 c, .int .i64 d]] w fun e w' => e = .returned (.int .i64 m2) ∧ Below w.heap.size w w'))
    (w : World) : Calls Try.prog 30 #[.agg #[.int .i64 p, .int .i64 q], .agg #[.int .i64 a, .int .i64 b, .int .i64 c, .int .i64 d]] w fun e w' => e = .returned (.bool (decide (k1 = 0) && decide (k2 = 0) && decide (m1 ≤ 0) && decide (m2 ≤ 0))) ∧ Below w.heap.size w w' := by
  have T0 := Lib.hid (two0 w #[.int .i64 p, .int .i64 q] #[.int .i64 a, .int .i64 b, .int .i64 c, .int .i64 d] 23 25)
  by_cases h1 : k1 = 0
  · subst h1
    by_cases h2 : k2 = 0
    · subst h2
      by_cases h3 : m1 ≤ 0
      · by_cases h4 : m2 ≤ 0
        · skip
          rw [decide_eq_true h3, decide_eq_true h4]
          go_enter Try.func30, Try.ntmps30
          go_wp2_with fail
          with_reducible refine ((K1.out) _).mono ?_
          rintro e w1 ⟨rfl, hb⟩
          have T1 := Lib.hid (T0.out.step hb)
          clear hb T0 K1
          obtain ⟨j0, j1, j4⟩ := Has.c2 (g := w.heap.size) (x := .int .i64 p) (y := .int .i64 q) (t := 23) T1.out (by simp)
          obtain ⟨g0, g1, g2, g3, g4⟩ := Has.c4 (g := w.heap.size + 1) (x := .int .i64 a) (y := .int .i64 b) (z := .int .i64 c) (u := .int .i64 d) (t := 25) T1.out (by simp)
          go_wp2_with fail
          with_reducible refine ((K2.out) _).mono ?_
          rintro e w2 ⟨rfl, hb⟩
          have T2 := Lib.hid (T1.out.step hb)
          clear hb T1 K2 j0 j1 j4 g0 g1 g2 g3 g4
          obtain ⟨j0, j1, j4⟩ := Has.c2 (g := w.heap.size) (x := .int .i64 p) (y := .int .i64 q) (t := 23) T2.out (by simp)
          obtain ⟨g0, g1, g2, g3, g4⟩ := Has.c4 (g := w.heap.size + 1) (x := .int .i64 a) (y := .int .i64 b) (z := .int .i64 c) (u := .int .i64 d) (t := 25) T2.out (by simp)
          go_wp2_with fail
          with_reducible refine ((M1.out) _).mono ?_
          rintro e w3 ⟨rfl, hb⟩
          have T3 := Lib.hid (T2.out.step hb)
          clear hb T2 M1 j0 j1 j4 g0 g1 g2 g3 g4
          obtain ⟨j0, j1, j4⟩ := Has.c2 (g := w.heap.size) (x := .int .i64 p) (y := .int .i64 q) (t := 23) T3.out (by simp)
          obtain ⟨g0, g1, g2, g3, g4⟩ := Has.c4 (g := w.heap.size + 1) (x := .int .i64 a) (y := .int .i64 b) (z := .int .i64 c) (u := .int .i64 d) (t := 25) T3.out (by simp)
          go_wp2_with fail
          with_reducible refine ((M2.out) _).mono ?_
          rintro e w4 ⟨rfl, hb⟩
          have T4 := Lib.hid (T3.out.step hb)
          clear hb T3 M2 j0 j1 j4 g0 g1 g2 g3 g4
          obtain ⟨j0, j1, j4⟩ := Has.c2 (g := w.heap.size) (x := .int .i64 p) (y := .int .i64 q) (t := 23) T4.out (by simp)
          obtain ⟨g0, g1, g2, g3, g4⟩ := Has.c4 (g := w.heap.size + 1) (x := .int .i64 a) (y := .int .i64 b) (z := .int .i64 c) (u := .int .i64 d) (t := 25) T4.out (by simp)
          go_wp2
          go_ret
          refine ⟨?_, T4.out.1⟩
          first | rfl | (simp [*]; done)
        · skip
          rw [decide_eq_true h3, decide_eq_false h4]
          go_enter Try.func30, Try.ntmps30
          go_wp2_with fail
          with_reducible refine ((K1.out) _).mono ?_
          rintro e w1 ⟨rfl, hb⟩
          have T1 := Lib.hid (T0.out.step hb)
          clear hb T0 K1
          obtain ⟨j0, j1, j4⟩ := Has.c2 (g := w.heap.size) (x := .int .i64 p) (y := .int .i64 q) (t := 23) T1.out (by simp)
          obtain ⟨g0, g1, g2, g3, g4⟩ := Has.c4 (g := w.heap.size + 1) (x := .int .i64 a) (y := .int .i64 b) (z := .int .i64 c) (u := .int .i64 d) (t := 25) T1.out (by simp)
          go_wp2_with fail
          with_reducible refine ((K2.out) _).mono ?_
          rintro e w2 ⟨rfl, hb⟩
          have T2 := Lib.hid (T1.out.step hb)
          clear hb T1 K2 j0 j1 j4 g0 g1 g2 g3 g4
          obtain ⟨j0, j1, j4⟩ := Has.c2 (g := w.heap.size) (x := .int .i64 p) (y := .int .i64 q) (t := 23) T2.out (by simp)
          obtain ⟨g0, g1, g2, g3, g4⟩ := Has.c4 (g := w.heap.size + 1) (x := .int .i64 a) (y := .int .i64 b) (z := .int .i64 c) (u := .int .i64 d) (t := 25) T2.out (by simp)
          go_wp2_with fail
          with_reducible refine ((M1.out) _).mono ?_
          rintro e w3 ⟨rfl, hb⟩
          have T3 := Lib.hid (T2.out.step hb)
          clear hb T2 M1 j0 j1 j4 g0 g1 g2 g3 g4
          obtain ⟨j0, j1, j4⟩ := Has.c2 (g := w.heap.size) (x := .int .i64 p) (y := .int .i64 q) (t := 23) T3.out (by simp)
          obtain ⟨g0, g1, g2, g3, g4⟩ := Has.c4 (g := w.heap.size + 1) (x := .int .i64 a) (y := .int .i64 b) (z := .int .i64 c) (u := .int .i64 d) (t := 25) T3.out (by simp)
          go_wp2_with fail
          with_reducible refine ((M2.out) _).mono ?_
          rintro e w4 ⟨rfl, hb⟩
          have T4 := Lib.hid (T3.out.step hb)
          clear hb T3 M2 j0 j1 j4 g0 g1 g2 g3 g4
          obtain ⟨j0, j1, j4⟩ := Has.c2 (g := w.heap.size) (x := .int .i64 p) (y := .int .i64 q) (t := 23) T4.out (by simp)
          obtain ⟨g0, g1, g2, g3, g4⟩ := Has.c4 (g := w.heap.size + 1) (x := .int .i64 a) (y := .int .i64 b) (z := .int .i64 c) (u := .int .i64 d) (t := 25) T4.out (by simp)
          go_wp2
          go_ret
          refine ⟨?_, T4.out.1⟩
          first | rfl | (simp [*]; done)
      · skip
        rw [decide_eq_false h3]
        go_enter Try.func30, Try.ntmps30
        go_wp2_with fail
        with_reducible refine ((K1.out) _).mono ?_
        rintro e w1 ⟨rfl, hb⟩
        have T1 := Lib.hid (T0.out.step hb)
        clear hb T0 K1
        obtain ⟨j0, j1, j4⟩ := Has.c2 (g := w.heap.size) (x := .int .i64 p) (y := .int .i64 q) (t := 23) T1.out (by simp)
        obtain ⟨g0, g1, g2, g3, g4⟩ := Has.c4 (g := w.heap.size + 1) (x := .int .i64 a) (y := .int .i64 b) (z := .int .i64 c) (u := .int .i64 d) (t := 25) T1.out (by simp)
        go_wp2_with fail
        with_reducible refine ((K2.out) _).mono ?_
        rintro e w2 ⟨rfl, hb⟩
        have T2 := Lib.hid (T1.out.step hb)
        clear hb T1 K2 j0 j1 j4 g0 g1 g2 g3 g4
        obtain ⟨j0, j1, j4⟩ := Has.c2 (g := w.heap.size) (x := .int .i64 p) (y := .int .i64 q) (t := 23) T2.out (by simp)
        obtain ⟨g0, g1, g2, g3, g4⟩ := Has.c4 (g := w.heap.size + 1) (x := .int .i64 a) (y := .int .i64 b) (z := .int .i64 c) (u := .int .i64 d) (t := 25) T2.out (by simp)
        go_wp2_with fail
        with_reducible refine ((M1.out) _).mono ?_
        rintro e w3 ⟨rfl, hb⟩
        have T3 := Lib.hid (T2.out.step hb)
        clear hb T2 M1 j0 j1 j4 g0 g1 g2 g3 g4
        obtain ⟨j0, j1, j4⟩ := Has.c2 (g := w.heap.size) (x := .int .i64 p) (y := .int .i64 q) (t := 23) T3.out (by simp)
        obtain ⟨g0, g1, g2, g3, g4⟩ := Has.c4 (g := w.heap.size + 1) (x := .int .i64 a) (y := .int .i64 b) (z := .int .i64 c) (u := .int .i64 d) (t := 25) T3.out (by simp)
        go_wp2
        go_ret
        refine ⟨?_, T3.out.1⟩
        first | rfl | (simp [*]; done)
    · skip
      rw [decide_eq_false h2]
      go_enter Try.func30, Try.ntmps30
      go_wp2_with fail
      with_reducible refine ((K1.out) _).mono ?_
      rintro e w1 ⟨rfl, hb⟩
      have T1 := Lib.hid (T0.out.step hb)
      clear hb T0 K1
      obtain ⟨j0, j1, j4⟩ := Has.c2 (g := w.heap.size) (x := .int .i64 p) (y := .int .i64 q) (t := 23) T1.out (by simp)
      obtain ⟨g0, g1, g2, g3, g4⟩ := Has.c4 (g := w.heap.size + 1) (x := .int .i64 a) (y := .int .i64 b) (z := .int .i64 c) (u := .int .i64 d) (t := 25) T1.out (by simp)
      go_wp2_with fail
      with_reducible refine ((K2.out) _).mono ?_
      rintro e w2 ⟨rfl, hb⟩
      have T2 := Lib.hid (T1.out.step hb)
      clear hb T1 K2 j0 j1 j4 g0 g1 g2 g3 g4
      obtain ⟨j0, j1, j4⟩ := Has.c2 (g := w.heap.size) (x := .int .i64 p) (y := .int .i64 q) (t := 23) T2.out (by simp)
      obtain ⟨g0, g1, g2, g3, g4⟩ := Has.c4 (g := w.heap.size + 1) (x := .int .i64 a) (y := .int .i64 b) (z := .int .i64 c) (u := .int .i64 d) (t := 25) T2.out (by simp)
      go_wp2
      go_ret
      refine ⟨?_, T2.out.1⟩
      first | rfl | (simp [*]; done)
  · skip
    rw [decide_eq_false h1]
    go_enter Try.func30, Try.ntmps30
    go_wp2_with fail
    with_reducible refine ((K1.out) _).mono ?_
    rintro e w1 ⟨rfl, hb⟩
    have T1 := Lib.hid (T0.out.step hb)
    clear hb T0 K1
    obtain ⟨j0, j1, j4⟩ := Has.c2 (g := w.heap.size) (x := .int .i64 p) (y := .int .i64 q) (t := 23) T1.out (by simp)
    obtain ⟨g0, g1, g2, g3, g4⟩ := Has.c4 (g := w.heap.size + 1) (x := .int .i64 a) (y := .int .i64 b) (z := .int .i64 c) (u := .int .i64 d) (t := 25) T1.out (by simp)
    go_wp2
    go_ret
    refine ⟨?_, T1.out.1⟩
    first | rfl | (simp [*]; done)
/-- The awake's block. -/
structure AK (g1 : Nat) (w : World) (V : World) : Prop where
  has : Has w [(g1, #[.int .i64 (-4), .int .i64 1, .int .i64 8, .int .i64 1], 25)] V
structure AKk (g1 : Nat) (w : World) (V : World) : Prop where
  out : AK g1 w V
theorem AK.drew {g1 : Nat} {w V : World} (h : AK g1 w V) : AK g1 w V.drew := ⟨h.has.drew⟩
theorem AK.step {g1 : Nat} {w V V2 : World} (hb : Below V.heap.size V V2) (h : AK g1 w V) : AK g1 w V2 := ⟨h.has.step hb⟩
theorem AK.all {g1 : Nat} {w V : World} (h : AK g1 w V) : AK g1 w V ∧ V.cell? ⟨g1, 0, none⟩ = some (.int .i64 (-4)) ∧ V.cell? ⟨g1, 1, none⟩ = some (.int .i64 1) ∧ V.cell? ⟨g1, 2, none⟩ = some (.int .i64 8) ∧ V.cell? ⟨g1, 3, none⟩ = some (.int .i64 1) :=
  have h1 := Has.c4 (g := g1) (x := .int .i64 (-4)) (y := .int .i64 1) (z := .int .i64 8) (u := .int .i64 1) (t := 25) h.has (by simp)
  ⟨h, h1.1, h1.2.1, h1.2.2.1, h1.2.2.2.1⟩
set_option maxHeartbeats 4000000 in
set_option maxRecDepth 100000 in
theorem awake_raw
    (MU : Hid (∀ w : World, Calls Try.prog 42 #[.agg #[.int .i64 (-1), .int .i64 1, .int .i64 2, .int .i64 1], .agg #[.int .i64 3, .int .i64 1, .int .i64 4, .int .i64 1]] w fun e w' => e = .returned (.tuple #[.agg #[.int .i64 (-4), .int .i64 1, .int .i64 8, .int .i64 1], .int .i64 0]) ∧ Below w.heap.size w w'))
    (DI : Hid (∀ w : World, Calls Try.prog 44 #[.agg #[.int .i64 1, .int .i64 1, .int .i64 2, .int .i64 1], .agg #[.int .i64 0, .int .i64 1, .int .i64 1, .int .i64 1]] w fun e w' => e = .returned (.tuple #[.agg #[.int .i64 0, .int .i64 0, .int .i64 0, .int .i64 0], .int .i64 23]) ∧ Below w.heap.size w w'))
    (C7 : Hid (∀ w : World, Calls Try.prog 28 #[.int .i64 7, .agg #[.int .i64 1, .int .i64 1, .int .i64 2, .int .i64 1], .agg #[.int .i64 2, .int .i64 1, .int .i64 3, .int .i64 1]] w fun e w' => e = .returned (.int .i64 (-1)) ∧ Below w.heap.size w w'))
    (C8 : Hid (∀ w : World, Calls Try.prog 28 #[.int .i64 8, .agg #[.int .i64 1, .int .i64 1, .int .i64 2, .int .i64 1], .agg #[.int .i64 2, .int .i64 1, .int .i64 3, .int .i64 1]] w fun e w' => e = .returned (.int .i64 1) ∧ Below w.heap.size w w'))
    (CO : Hid (∀ w : World, Calls Try.prog 17 #[.agg #[.int .i64 1, .int .i64 1, .int .i64 3, .int .i64 1], .agg #[.int .i64 2, .int .i64 1, .int .i64 3, .int .i64 1]] w fun e w' => e = .returned (.bool true) ∧ Below w.heap.size w w'))
    (w : World) : Calls Try.prog 19 #[] w fun e w' => e = .returned (.bool true) ∧ Below w.heap.size w w' := by
  have T0 := Lib.hid (Has.start w)
  go_enter Try.func19, Try.ntmps19
  go_wp2_with fail
  with_reducible refine (whole_raw _ _ _).mono ?_
  rintro e w1 ⟨rfl, hb⟩
  have T1 := Lib.hid (T0.out.step hb)
  clear hb T0
  go_wp2_with fail
  with_reducible refine (whole_raw _ _ _).mono ?_
  rintro e w2 ⟨rfl, hb⟩
  have T2 := Lib.hid (T1.out.step hb)
  clear hb T1
  go_wp2_with fail
  with_reducible refine (MU.out _).mono ?_
  rintro e w3 ⟨rfl, hb⟩
  have T3 := Lib.hid ((T2.out.step hb).alloc #[.int .i64 (-4), .int .i64 1, .int .i64 8, .int .i64 1] 25)
  clear hb T2 MU
  go_upto_region 2 with fail
  generalize w3.alloc (.cells #[.int .i64 (-4), .int .i64 1, .int .i64 8, .int .i64 1] 25) = y3 at *
  generalize w3.heap.size = g1 at *
  go_wp2_with fail
  with_reducible refine (whole_raw _ _ _).mono ?_
  rintro e w4 ⟨rfl, hb⟩
  have T4 := Lib.hid (T3.out.step hb)
  clear hb T3
  go_wp2_with fail
  with_reducible refine (whole_raw _ _ _).mono ?_
  rintro e w5 ⟨rfl, hb⟩
  have T5 := Lib.hid (T4.out.step hb)
  clear hb T4
  go_wp2_with fail
  with_reducible refine (DI.out _).mono ?_
  rintro e w6 ⟨rfl, hb⟩
  have T6 := Lib.hid ((T5.out.step hb).alloc #[.int .i64 0, .int .i64 0, .int .i64 0, .int .i64 0] 25)
  clear hb T5 DI
  go_upto_region 3 with fail
  generalize w6.alloc (.cells #[.int .i64 0, .int .i64 0, .int .i64 0, .int .i64 0] 25) = y6 at *
  generalize w6.heap.size = g2 at *
  have hk1 : AKk g1 w y6 := AKk.mk (AK.mk (T6.out.sub (by simp)))
  clear T6
  have h0 := hk1.out.all
  go_region_held3 (fun V => AK g1 w V ∧ V.cell? ⟨g1, 0, none⟩ = some (.int .i64 (-4)) ∧ V.cell? ⟨g1, 1, none⟩ = some (.int .i64 1) ∧ V.cell? ⟨g1, 2, none⟩ = some (.int .i64 8) ∧ V.cell? ⟨g1, 3, none⟩ = some (.int .i64 1))
    ((refine AK.all ?_; (with_reducible repeat (first | exact AKk.out (by assumption) | apply AK.drew))))
    (first
      | (go_at_call 43; (with_reducible refine (whole_raw _ _ _).mono ?_); rintro e w' ⟨rfl, hb⟩; (have hk := AKk.mk (AK.step hb (by (with_reducible repeat (first | exact AKk.out (by assumption) | apply AK.drew))))))
      | (go_at_call 28; (with_reducible first | (refine (C7.out _).mono ?_) | (refine (C8.out _).mono ?_)); rintro e w' ⟨rfl, hb⟩; (have hk := AKk.mk (AK.step hb (by (with_reducible repeat (first | exact AKk.out (by assumption) | apply AK.drew))))))
      | (go_at_call 17; (with_reducible refine (CO.out _).mono ?_); rintro e w' ⟨rfl, hb⟩; (have hk := AKk.mk (AK.step hb (by (with_reducible repeat (first | exact AKk.out (by assumption) | apply AK.drew))))); (have HZ := Lib.hid hk)))
  go_wp2
  go_ret
  exact ⟨rfl, HZ.out.out.has.1⟩
end Go.Proofs.Ytbiegbnncnjnmaa.Iv
namespace Go.Proofs.Ytbiegbnncnjnmaa.Iv
open Go.RowKit
open Go.Proofs.Ytbiegbnncnjnmaa.Pro

set_option maxHeartbeats 1000000 in
theorem arith0_raw (a b c d p q r s x y z u ev : Int)
    (C : Hid (∀ w : World, Calls Try.prog 45 #[.agg #[.int .i64 a, .int .i64 b, .int .i64 c, .int .i64 d], .agg #[.int .i64 p, .int .i64 q, .int .i64 r, .int .i64 s]] w fun e w' => e = .returned (.tuple #[.agg #[.int .i64 x, .int .i64 y, .int .i64 z, .int .i64 u], .int .i64 ev]) ∧ Below w.heap.size w w'))
    (w : World) : Calls Try.prog 20 #[.int .i64 0, .agg #[.int .i64 a, .int .i64 b, .int .i64 c, .int .i64 d], .agg #[.int .i64 p, .int .i64 q, .int .i64 r, .int .i64 s]] w fun e w' => e = .returned (.tuple #[.agg #[.int .i64 x, .int .i64 y, .int .i64 z, .int .i64 u], .int .i64 ev]) ∧ Below w.heap.size w w' := by
  have T0 := Lib.hid (three0 w #[.int .i64 a, .int .i64 b, .int .i64 c, .int .i64 d] #[.int .i64 p, .int .i64 q, .int .i64 r, .int .i64 s] #[.int .i64 0, .int .i64 0, .int .i64 0, .int .i64 0] 25 25 25)
  go_enter Try.func20, Try.ntmps20
  go_wp2_with fail
  with_reducible refine ((C.out) _).mono ?_
  rintro e w1 ⟨rfl, hb⟩
  have T1 := Lib.hid (T0.out.step hb)
  clear hb T0 C
  obtain ⟨k0, k1, k2, k3, k4⟩ := Has.c4 (g := w.heap.size + 1 + 1) (x := .int .i64 0) (y := .int .i64 0) (z := .int .i64 0) (u := .int .i64 0) (t := 25) T1.out (by simp)
  obtain ⟨k5, k6, k7, k8⟩ := Has.f4 (g := w.heap.size + 1 + 1) (cs := #[.int .i64 0, .int .i64 0, .int .i64 0, .int .i64 0]) (t := 25) T1.out (by simp)
  have T2 := Lib.hid (Has.put4 (g := w.heap.size + 1 + 1) (x := .int .i64 0) (y := .int .i64 0) (z := .int .i64 0) (u := .int .i64 0) (t := 25) (M := [(w.heap.size, #[.int .i64 a, .int .i64 b, .int .i64 c, .int .i64 d], 25)]) T1.out (.int .i64 x) (.int .i64 y) (.int .i64 z) (.int .i64 u) (by simp) (by simp <;> omega))
  go_wp2
  refine bodyPost_ret (res_cell_tmp rfl _ _ (w.heap.size + 1 + 1) 25 #[.int .i64 x, .int .i64 y, .int .i64 z, .int .i64 u] (0, 0) _ rfl (T2.out.row (by simp)) Try.underlying25 rfl info25) rfl ?_
  exact ⟨rfl, T2.out.1⟩
set_option maxHeartbeats 1000000 in
theorem arith1_raw (a b c d p q r s x y z u ev : Int)
    (C : Hid (∀ w : World, Calls Try.prog 46 #[.agg #[.int .i64 a, .int .i64 b, .int .i64 c, .int .i64 d], .agg #[.int .i64 p, .int .i64 q, .int .i64 r, .int .i64 s]] w fun e w' => e = .returned (.tuple #[.agg #[.int .i64 x, .int .i64 y, .int .i64 z, .int .i64 u], .int .i64 ev]) ∧ Below w.heap.size w w'))
    (w : World) : Calls Try.prog 20 #[.int .i64 1, .agg #[.int .i64 a, .int .i64 b, .int .i64 c, .int .i64 d], .agg #[.int .i64 p, .int .i64 q, .int .i64 r, .int .i64 s]] w fun e w' => e = .returned (.tuple #[.agg #[.int .i64 x, .int .i64 y, .int .i64 z, .int .i64 u], .int .i64 ev]) ∧ Below w.heap.size w w' := by
  have T0 := Lib.hid (three0 w #[.int .i64 a, .int .i64 b, .int .i64 c, .int .i64 d] #[.int .i64 p, .int .i64 q, .int .i64 r, .int .i64 s] #[.int .i64 0, .int .i64 0, .int .i64 0, .int .i64 0] 25 25 25)
  go_enter Try.func20, Try.ntmps20
  go_wp2_with fail
  with_reducible refine ((C.out) _).mono ?_
  rintro e w1 ⟨rfl, hb⟩
  have T1 := Lib.hid (T0.out.step hb)
  clear hb T0 C
  obtain ⟨k0, k1, k2, k3, k4⟩ := Has.c4 (g := w.heap.size + 1 + 1) (x := .int .i64 0) (y := .int .i64 0) (z := .int .i64 0) (u := .int .i64 0) (t := 25) T1.out (by simp)
  obtain ⟨k5, k6, k7, k8⟩ := Has.f4 (g := w.heap.size + 1 + 1) (cs := #[.int .i64 0, .int .i64 0, .int .i64 0, .int .i64 0]) (t := 25) T1.out (by simp)
  have T2 := Lib.hid (Has.put4 (g := w.heap.size + 1 + 1) (x := .int .i64 0) (y := .int .i64 0) (z := .int .i64 0) (u := .int .i64 0) (t := 25) (M := [(w.heap.size, #[.int .i64 a, .int .i64 b, .int .i64 c, .int .i64 d], 25)]) T1.out (.int .i64 x) (.int .i64 y) (.int .i64 z) (.int .i64 u) (by simp) (by simp <;> omega))
  go_wp2
  refine bodyPost_ret (res_cell_tmp rfl _ _ (w.heap.size + 1 + 1) 25 #[.int .i64 x, .int .i64 y, .int .i64 z, .int .i64 u] (0, 0) _ rfl (T2.out.row (by simp)) Try.underlying25 rfl info25) rfl ?_
  exact ⟨rfl, T2.out.1⟩
set_option maxHeartbeats 1000000 in
theorem arith2_raw (a b c d p q r s x y z u ev : Int)
    (C : Hid (∀ w : World, Calls Try.prog 42 #[.agg #[.int .i64 a, .int .i64 b, .int .i64 c, .int .i64 d], .agg #[.int .i64 p, .int .i64 q, .int .i64 r, .int .i64 s]] w fun e w' => e = .returned (.tuple #[.agg #[.int .i64 x, .int .i64 y, .int .i64 z, .int .i64 u], .int .i64 ev]) ∧ Below w.heap.size w w'))
    (w : World) : Calls Try.prog 20 #[.int .i64 2, .agg #[.int .i64 a, .int .i64 b, .int .i64 c, .int .i64 d], .agg #[.int .i64 p, .int .i64 q, .int .i64 r, .int .i64 s]] w fun e w' => e = .returned (.tuple #[.agg #[.int .i64 x, .int .i64 y, .int .i64 z, .int .i64 u], .int .i64 ev]) ∧ Below w.heap.size w w' := by
  have T0 := Lib.hid (three0 w #[.int .i64 a, .int .i64 b, .int .i64 c, .int .i64 d] #[.int .i64 p, .int .i64 q, .int .i64 r, .int .i64 s] #[.int .i64 0, .int .i64 0, .int .i64 0, .int .i64 0] 25 25 25)
  go_enter Try.func20, Try.ntmps20
  go_wp2_with fail
  with_reducible refine ((C.out) _).mono ?_
  rintro e w1 ⟨rfl, hb⟩
  have T1 := Lib.hid (T0.out.step hb)
  clear hb T0 C
  obtain ⟨k0, k1, k2, k3, k4⟩ := Has.c4 (g := w.heap.size + 1 + 1) (x := .int .i64 0) (y := .int .i64 0) (z := .int .i64 0) (u := .int .i64 0) (t := 25) T1.out (by simp)
  obtain ⟨k5, k6, k7, k8⟩ := Has.f4 (g := w.heap.size + 1 + 1) (cs := #[.int .i64 0, .int .i64 0, .int .i64 0, .int .i64 0]) (t := 25) T1.out (by simp)
  have T2 := Lib.hid (Has.put4 (g := w.heap.size + 1 + 1) (x := .int .i64 0) (y := .int .i64 0) (z := .int .i64 0) (u := .int .i64 0) (t := 25) (M := [(w.heap.size, #[.int .i64 a, .int .i64 b, .int .i64 c, .int .i64 d], 25)]) T1.out (.int .i64 x) (.int .i64 y) (.int .i64 z) (.int .i64 u) (by simp) (by simp <;> omega))
  go_wp2
  refine bodyPost_ret (res_cell_tmp rfl _ _ (w.heap.size + 1 + 1) 25 #[.int .i64 x, .int .i64 y, .int .i64 z, .int .i64 u] (0, 0) _ rfl (T2.out.row (by simp)) Try.underlying25 rfl info25) rfl ?_
  exact ⟨rfl, T2.out.1⟩
set_option maxHeartbeats 1000000 in
theorem arith3_raw (a b c d p q r s x y z u ev : Int)
    (C : Hid (∀ w : World, Calls Try.prog 44 #[.agg #[.int .i64 a, .int .i64 b, .int .i64 c, .int .i64 d], .agg #[.int .i64 p, .int .i64 q, .int .i64 r, .int .i64 s]] w fun e w' => e = .returned (.tuple #[.agg #[.int .i64 x, .int .i64 y, .int .i64 z, .int .i64 u], .int .i64 ev]) ∧ Below w.heap.size w w'))
    (w : World) : Calls Try.prog 20 #[.int .i64 3, .agg #[.int .i64 a, .int .i64 b, .int .i64 c, .int .i64 d], .agg #[.int .i64 p, .int .i64 q, .int .i64 r, .int .i64 s]] w fun e w' => e = .returned (.tuple #[.agg #[.int .i64 x, .int .i64 y, .int .i64 z, .int .i64 u], .int .i64 ev]) ∧ Below w.heap.size w w' := by
  have T0 := Lib.hid (three0 w #[.int .i64 a, .int .i64 b, .int .i64 c, .int .i64 d] #[.int .i64 p, .int .i64 q, .int .i64 r, .int .i64 s] #[.int .i64 0, .int .i64 0, .int .i64 0, .int .i64 0] 25 25 25)
  go_enter Try.func20, Try.ntmps20
  go_wp2_with fail
  with_reducible refine ((C.out) _).mono ?_
  rintro e w1 ⟨rfl, hb⟩
  have T1 := Lib.hid (T0.out.step hb)
  clear hb T0 C
  obtain ⟨k0, k1, k2, k3, k4⟩ := Has.c4 (g := w.heap.size + 1 + 1) (x := .int .i64 0) (y := .int .i64 0) (z := .int .i64 0) (u := .int .i64 0) (t := 25) T1.out (by simp)
  obtain ⟨k5, k6, k7, k8⟩ := Has.f4 (g := w.heap.size + 1 + 1) (cs := #[.int .i64 0, .int .i64 0, .int .i64 0, .int .i64 0]) (t := 25) T1.out (by simp)
  have T2 := Lib.hid (Has.put4 (g := w.heap.size + 1 + 1) (x := .int .i64 0) (y := .int .i64 0) (z := .int .i64 0) (u := .int .i64 0) (t := 25) (M := [(w.heap.size, #[.int .i64 a, .int .i64 b, .int .i64 c, .int .i64 d], 25)]) T1.out (.int .i64 x) (.int .i64 y) (.int .i64 z) (.int .i64 u) (by simp) (by simp <;> omega))
  go_wp2
  refine bodyPost_ret (res_cell_tmp rfl _ _ (w.heap.size + 1 + 1) 25 #[.int .i64 x, .int .i64 y, .int .i64 z, .int .i64 u] (0, 0) _ rfl (T2.out.row (by simp)) Try.underlying25 rfl info25) rfl ?_
  exact ⟨rfl, T2.out.1⟩
set_option maxHeartbeats 1000000 in
theorem refer0_raw (a b c d p q r s x y z u ev : Int)
    (C : Hid (∀ w : World, Calls Try.prog 47 #[.agg #[.int .i64 a, .int .i64 b, .int .i64 c, .int .i64 d], .agg #[.int .i64 p, .int .i64 q, .int .i64 r, .int .i64 s]] w fun e w' => e = .returned (.tuple #[.agg #[.int .i64 x, .int .i64 y, .int .i64 z, .int .i64 u], .int .i64 ev]) ∧ Below w.heap.size w w'))
    (w : World) : Calls Try.prog 21 #[.int .i64 0, .agg #[.int .i64 a, .int .i64 b, .int .i64 c, .int .i64 d], .agg #[.int .i64 p, .int .i64 q, .int .i64 r, .int .i64 s]] w fun e w' => e = .returned (.tuple #[.agg #[.int .i64 x, .int .i64 y, .int .i64 z, .int .i64 u], .int .i64 ev]) ∧ Below w.heap.size w w' := by
  have T0 := Lib.hid (three0 w #[.int .i64 a, .int .i64 b, .int .i64 c, .int .i64 d] #[.int .i64 p, .int .i64 q, .int .i64 r, .int .i64 s] #[.int .i64 0, .int .i64 0, .int .i64 0, .int .i64 0] 25 25 25)
  go_enter Try.func21, Try.ntmps21
  go_wp2_with fail
  with_reducible refine ((C.out) _).mono ?_
  rintro e w1 ⟨rfl, hb⟩
  have T1 := Lib.hid (T0.out.step hb)
  clear hb T0 C
  obtain ⟨k0, k1, k2, k3, k4⟩ := Has.c4 (g := w.heap.size + 1 + 1) (x := .int .i64 0) (y := .int .i64 0) (z := .int .i64 0) (u := .int .i64 0) (t := 25) T1.out (by simp)
  obtain ⟨k5, k6, k7, k8⟩ := Has.f4 (g := w.heap.size + 1 + 1) (cs := #[.int .i64 0, .int .i64 0, .int .i64 0, .int .i64 0]) (t := 25) T1.out (by simp)
  have T2 := Lib.hid (Has.put4 (g := w.heap.size + 1 + 1) (x := .int .i64 0) (y := .int .i64 0) (z := .int .i64 0) (u := .int .i64 0) (t := 25) (M := [(w.heap.size, #[.int .i64 a, .int .i64 b, .int .i64 c, .int .i64 d], 25)]) T1.out (.int .i64 x) (.int .i64 y) (.int .i64 z) (.int .i64 u) (by simp) (by simp <;> omega))
  go_wp2
  refine bodyPost_ret (res_cell_tmp rfl _ _ (w.heap.size + 1 + 1) 25 #[.int .i64 x, .int .i64 y, .int .i64 z, .int .i64 u] (0, 0) _ rfl (T2.out.row (by simp)) Try.underlying25 rfl info25) rfl ?_
  exact ⟨rfl, T2.out.1⟩
set_option maxHeartbeats 1000000 in
theorem refer1_raw (a b c d p q r s x y z u ev : Int)
    (C : Hid (∀ w : World, Calls Try.prog 48 #[.agg #[.int .i64 a, .int .i64 b, .int .i64 c, .int .i64 d], .agg #[.int .i64 p, .int .i64 q, .int .i64 r, .int .i64 s]] w fun e w' => e = .returned (.tuple #[.agg #[.int .i64 x, .int .i64 y, .int .i64 z, .int .i64 u], .int .i64 ev]) ∧ Below w.heap.size w w'))
    (w : World) : Calls Try.prog 21 #[.int .i64 1, .agg #[.int .i64 a, .int .i64 b, .int .i64 c, .int .i64 d], .agg #[.int .i64 p, .int .i64 q, .int .i64 r, .int .i64 s]] w fun e w' => e = .returned (.tuple #[.agg #[.int .i64 x, .int .i64 y, .int .i64 z, .int .i64 u], .int .i64 ev]) ∧ Below w.heap.size w w' := by
  have T0 := Lib.hid (three0 w #[.int .i64 a, .int .i64 b, .int .i64 c, .int .i64 d] #[.int .i64 p, .int .i64 q, .int .i64 r, .int .i64 s] #[.int .i64 0, .int .i64 0, .int .i64 0, .int .i64 0] 25 25 25)
  go_enter Try.func21, Try.ntmps21
  go_wp2_with fail
  with_reducible refine ((C.out) _).mono ?_
  rintro e w1 ⟨rfl, hb⟩
  have T1 := Lib.hid (T0.out.step hb)
  clear hb T0 C
  obtain ⟨k0, k1, k2, k3, k4⟩ := Has.c4 (g := w.heap.size + 1 + 1) (x := .int .i64 0) (y := .int .i64 0) (z := .int .i64 0) (u := .int .i64 0) (t := 25) T1.out (by simp)
  obtain ⟨k5, k6, k7, k8⟩ := Has.f4 (g := w.heap.size + 1 + 1) (cs := #[.int .i64 0, .int .i64 0, .int .i64 0, .int .i64 0]) (t := 25) T1.out (by simp)
  have T2 := Lib.hid (Has.put4 (g := w.heap.size + 1 + 1) (x := .int .i64 0) (y := .int .i64 0) (z := .int .i64 0) (u := .int .i64 0) (t := 25) (M := [(w.heap.size, #[.int .i64 a, .int .i64 b, .int .i64 c, .int .i64 d], 25)]) T1.out (.int .i64 x) (.int .i64 y) (.int .i64 z) (.int .i64 u) (by simp) (by simp <;> omega))
  go_wp2
  refine bodyPost_ret (res_cell_tmp rfl _ _ (w.heap.size + 1 + 1) 25 #[.int .i64 x, .int .i64 y, .int .i64 z, .int .i64 u] (0, 0) _ rfl (T2.out.row (by simp)) Try.underlying25 rfl info25) rfl ?_
  exact ⟨rfl, T2.out.1⟩
set_option maxHeartbeats 1000000 in
theorem refer2_raw (a b c d p q r s x y z u ev : Int)
    (C : Hid (∀ w : World, Calls Try.prog 49 #[.agg #[.int .i64 a, .int .i64 b, .int .i64 c, .int .i64 d], .agg #[.int .i64 p, .int .i64 q, .int .i64 r, .int .i64 s]] w fun e w' => e = .returned (.tuple #[.agg #[.int .i64 x, .int .i64 y, .int .i64 z, .int .i64 u], .int .i64 ev]) ∧ Below w.heap.size w w'))
    (w : World) : Calls Try.prog 21 #[.int .i64 2, .agg #[.int .i64 a, .int .i64 b, .int .i64 c, .int .i64 d], .agg #[.int .i64 p, .int .i64 q, .int .i64 r, .int .i64 s]] w fun e w' => e = .returned (.tuple #[.agg #[.int .i64 x, .int .i64 y, .int .i64 z, .int .i64 u], .int .i64 ev]) ∧ Below w.heap.size w w' := by
  have T0 := Lib.hid (three0 w #[.int .i64 a, .int .i64 b, .int .i64 c, .int .i64 d] #[.int .i64 p, .int .i64 q, .int .i64 r, .int .i64 s] #[.int .i64 0, .int .i64 0, .int .i64 0, .int .i64 0] 25 25 25)
  go_enter Try.func21, Try.ntmps21
  go_wp2_with fail
  with_reducible refine ((C.out) _).mono ?_
  rintro e w1 ⟨rfl, hb⟩
  have T1 := Lib.hid (T0.out.step hb)
  clear hb T0 C
  obtain ⟨k0, k1, k2, k3, k4⟩ := Has.c4 (g := w.heap.size + 1 + 1) (x := .int .i64 0) (y := .int .i64 0) (z := .int .i64 0) (u := .int .i64 0) (t := 25) T1.out (by simp)
  obtain ⟨k5, k6, k7, k8⟩ := Has.f4 (g := w.heap.size + 1 + 1) (cs := #[.int .i64 0, .int .i64 0, .int .i64 0, .int .i64 0]) (t := 25) T1.out (by simp)
  have T2 := Lib.hid (Has.put4 (g := w.heap.size + 1 + 1) (x := .int .i64 0) (y := .int .i64 0) (z := .int .i64 0) (u := .int .i64 0) (t := 25) (M := [(w.heap.size, #[.int .i64 a, .int .i64 b, .int .i64 c, .int .i64 d], 25)]) T1.out (.int .i64 x) (.int .i64 y) (.int .i64 z) (.int .i64 u) (by simp) (by simp <;> omega))
  go_wp2
  refine bodyPost_ret (res_cell_tmp rfl _ _ (w.heap.size + 1 + 1) 25 #[.int .i64 x, .int .i64 y, .int .i64 z, .int .i64 u] (0, 0) _ rfl (T2.out.row (by simp)) Try.underlying25 rfl info25) rfl ?_
  exact ⟨rfl, T2.out.1⟩
set_option maxHeartbeats 1000000 in
theorem refer3_raw (a b c d p q r s x y z u ev : Int)
    (C : Hid (∀ w : World, Calls Try.prog 50 #[.agg #[.int .i64 a, .int .i64 b, .int .i64 c, .int .i64 d], .agg #[.int .i64 p, .int .i64 q, .int .i64 r, .int .i64 s]] w fun e w' => e = .returned (.tuple #[.agg #[.int .i64 x, .int .i64 y, .int .i64 z, .int .i64 u], .int .i64 ev]) ∧ Below w.heap.size w w'))
    (w : World) : Calls Try.prog 21 #[.int .i64 3, .agg #[.int .i64 a, .int .i64 b, .int .i64 c, .int .i64 d], .agg #[.int .i64 p, .int .i64 q, .int .i64 r, .int .i64 s]] w fun e w' => e = .returned (.tuple #[.agg #[.int .i64 x, .int .i64 y, .int .i64 z, .int .i64 u], .int .i64 ev]) ∧ Below w.heap.size w w' := by
  have T0 := Lib.hid (three0 w #[.int .i64 a, .int .i64 b, .int .i64 c, .int .i64 d] #[.int .i64 p, .int .i64 q, .int .i64 r, .int .i64 s] #[.int .i64 0, .int .i64 0, .int .i64 0, .int .i64 0] 25 25 25)
  go_enter Try.func21, Try.ntmps21
  go_wp2_with fail
  with_reducible refine ((C.out) _).mono ?_
  rintro e w1 ⟨rfl, hb⟩
  have T1 := Lib.hid (T0.out.step hb)
  clear hb T0 C
  obtain ⟨k0, k1, k2, k3, k4⟩ := Has.c4 (g := w.heap.size + 1 + 1) (x := .int .i64 0) (y := .int .i64 0) (z := .int .i64 0) (u := .int .i64 0) (t := 25) T1.out (by simp)
  obtain ⟨k5, k6, k7, k8⟩ := Has.f4 (g := w.heap.size + 1 + 1) (cs := #[.int .i64 0, .int .i64 0, .int .i64 0, .int .i64 0]) (t := 25) T1.out (by simp)
  have T2 := Lib.hid (Has.put4 (g := w.heap.size + 1 + 1) (x := .int .i64 0) (y := .int .i64 0) (z := .int .i64 0) (u := .int .i64 0) (t := 25) (M := [(w.heap.size, #[.int .i64 a, .int .i64 b, .int .i64 c, .int .i64 d], 25)]) T1.out (.int .i64 x) (.int .i64 y) (.int .i64 z) (.int .i64 u) (by simp) (by simp <;> omega))
  go_wp2
  refine bodyPost_ret (res_cell_tmp rfl _ _ (w.heap.size + 1 + 1) 25 #[.int .i64 x, .int .i64 y, .int .i64 z, .int .i64 u] (0, 0) _ rfl (T2.out.row (by simp)) Try.underlying25 rfl info25) rfl ?_
  exact ⟨rfl, T2.out.1⟩
set_option maxHeartbeats 1000000 in
theorem single0_raw (a b p q x y ev : Int)
    (C : Hid (∀ w : World, Calls Try.prog 57 #[.agg #[.int .i64 a, .int .i64 b], .agg #[.int .i64 p, .int .i64 q]] w fun e w' => e = .returned (.tuple #[.agg #[.int .i64 x, .int .i64 y], .int .i64 ev]) ∧ Below w.heap.size w w'))
    (w : World) : Calls Try.prog 31 #[.int .i64 0, .agg #[.int .i64 a, .int .i64 b], .agg #[.int .i64 p, .int .i64 q]] w fun e w' => e = .returned (.tuple #[.agg #[.int .i64 x, .int .i64 y], .int .i64 ev]) ∧ Below w.heap.size w w' := by
  have T0 := Lib.hid (three0 w #[.int .i64 a, .int .i64 b] #[.int .i64 p, .int .i64 q] #[.int .i64 0, .int .i64 0] 23 23 23)
  go_enter Try.func31, Try.ntmps31
  go_wp2_with fail
  with_reducible refine ((C.out) _).mono ?_
  rintro e w1 ⟨rfl, hb⟩
  have T1 := Lib.hid (T0.out.step hb)
  clear hb T0 C
  obtain ⟨k0, k1, k4⟩ := Has.c2 (g := w.heap.size + 1 + 1) (x := .int .i64 0) (y := .int .i64 0) (t := 23) T1.out (by simp)
  obtain ⟨k5, k6⟩ := frozen2 (T1.out.row (b := w.heap.size + 1 + 1) (cs := #[.int .i64 0, .int .i64 0]) (t := 23) (by simp))
  have T2 := Lib.hid (Has.put2 (g := w.heap.size + 1 + 1) (x := .int .i64 0) (y := .int .i64 0) (t := 23) (M := [(w.heap.size, #[.int .i64 a, .int .i64 b], 23)]) T1.out (.int .i64 x) (.int .i64 y) (by simp) (by simp <;> omega))
  go_wp2
  refine bodyPost_ret (res_cell_tmp rfl _ _ (w.heap.size + 1 + 1) 23 #[.int .i64 x, .int .i64 y] (0, 0) _ rfl (T2.out.row (by simp)) Try.underlying23 rfl info23) rfl ?_
  exact ⟨rfl, T2.out.1⟩
set_option maxHeartbeats 1000000 in
theorem single1_raw (a b p q x y ev : Int)
    (C : Hid (∀ w : World, Calls Try.prog 35 #[.agg #[.int .i64 a, .int .i64 b], .agg #[.int .i64 p, .int .i64 q]] w fun e w' => e = .returned (.tuple #[.agg #[.int .i64 x, .int .i64 y], .int .i64 ev]) ∧ Below w.heap.size w w'))
    (w : World) : Calls Try.prog 31 #[.int .i64 1, .agg #[.int .i64 a, .int .i64 b], .agg #[.int .i64 p, .int .i64 q]] w fun e w' => e = .returned (.tuple #[.agg #[.int .i64 x, .int .i64 y], .int .i64 ev]) ∧ Below w.heap.size w w' := by
  have T0 := Lib.hid (three0 w #[.int .i64 a, .int .i64 b] #[.int .i64 p, .int .i64 q] #[.int .i64 0, .int .i64 0] 23 23 23)
  go_enter Try.func31, Try.ntmps31
  go_wp2_with fail
  with_reducible refine ((C.out) _).mono ?_
  rintro e w1 ⟨rfl, hb⟩
  have T1 := Lib.hid (T0.out.step hb)
  clear hb T0 C
  obtain ⟨k0, k1, k4⟩ := Has.c2 (g := w.heap.size + 1 + 1) (x := .int .i64 0) (y := .int .i64 0) (t := 23) T1.out (by simp)
  obtain ⟨k5, k6⟩ := frozen2 (T1.out.row (b := w.heap.size + 1 + 1) (cs := #[.int .i64 0, .int .i64 0]) (t := 23) (by simp))
  have T2 := Lib.hid (Has.put2 (g := w.heap.size + 1 + 1) (x := .int .i64 0) (y := .int .i64 0) (t := 23) (M := [(w.heap.size, #[.int .i64 a, .int .i64 b], 23)]) T1.out (.int .i64 x) (.int .i64 y) (by simp) (by simp <;> omega))
  go_wp2
  refine bodyPost_ret (res_cell_tmp rfl _ _ (w.heap.size + 1 + 1) 23 #[.int .i64 x, .int .i64 y] (0, 0) _ rfl (T2.out.row (by simp)) Try.underlying23 rfl info23) rfl ?_
  exact ⟨rfl, T2.out.1⟩
set_option maxHeartbeats 1000000 in
theorem single2_raw (a b p q x y ev : Int)
    (C : Hid (∀ w : World, Calls Try.prog 58 #[.agg #[.int .i64 a, .int .i64 b], .agg #[.int .i64 p, .int .i64 q]] w fun e w' => e = .returned (.tuple #[.agg #[.int .i64 x, .int .i64 y], .int .i64 ev]) ∧ Below w.heap.size w w'))
    (w : World) : Calls Try.prog 31 #[.int .i64 2, .agg #[.int .i64 a, .int .i64 b], .agg #[.int .i64 p, .int .i64 q]] w fun e w' => e = .returned (.tuple #[.agg #[.int .i64 x, .int .i64 y], .int .i64 ev]) ∧ Below w.heap.size w w' := by
  have T0 := Lib.hid (three0 w #[.int .i64 a, .int .i64 b] #[.int .i64 p, .int .i64 q] #[.int .i64 0, .int .i64 0] 23 23 23)
  go_enter Try.func31, Try.ntmps31
  go_wp2_with fail
  with_reducible refine ((C.out) _).mono ?_
  rintro e w1 ⟨rfl, hb⟩
  have T1 := Lib.hid (T0.out.step hb)
  clear hb T0 C
  obtain ⟨k0, k1, k4⟩ := Has.c2 (g := w.heap.size + 1 + 1) (x := .int .i64 0) (y := .int .i64 0) (t := 23) T1.out (by simp)
  obtain ⟨k5, k6⟩ := frozen2 (T1.out.row (b := w.heap.size + 1 + 1) (cs := #[.int .i64 0, .int .i64 0]) (t := 23) (by simp))
  have T2 := Lib.hid (Has.put2 (g := w.heap.size + 1 + 1) (x := .int .i64 0) (y := .int .i64 0) (t := 23) (M := [(w.heap.size, #[.int .i64 a, .int .i64 b], 23)]) T1.out (.int .i64 x) (.int .i64 y) (by simp) (by simp <;> omega))
  go_wp2
  refine bodyPost_ret (res_cell_tmp rfl _ _ (w.heap.size + 1 + 1) 23 #[.int .i64 x, .int .i64 y] (0, 0) _ rfl (T2.out.row (by simp)) Try.underlying23 rfl info23) rfl ?_
  exact ⟨rfl, T2.out.1⟩
set_option maxHeartbeats 1000000 in
theorem single3_raw (a b p q x y ev : Int)
    (C : Hid (∀ w : World, Calls Try.prog 59 #[.agg #[.int .i64 a, .int .i64 b], .agg #[.int .i64 p, .int .i64 q]] w fun e w' => e = .returned (.tuple #[.agg #[.int .i64 x, .int .i64 y], .int .i64 ev]) ∧ Below w.heap.size w w'))
    (w : World) : Calls Try.prog 31 #[.int .i64 3, .agg #[.int .i64 a, .int .i64 b], .agg #[.int .i64 p, .int .i64 q]] w fun e w' => e = .returned (.tuple #[.agg #[.int .i64 x, .int .i64 y], .int .i64 ev]) ∧ Below w.heap.size w w' := by
  have T0 := Lib.hid (three0 w #[.int .i64 a, .int .i64 b] #[.int .i64 p, .int .i64 q] #[.int .i64 0, .int .i64 0] 23 23 23)
  go_enter Try.func31, Try.ntmps31
  go_wp2_with fail
  with_reducible refine ((C.out) _).mono ?_
  rintro e w1 ⟨rfl, hb⟩
  have T1 := Lib.hid (T0.out.step hb)
  clear hb T0 C
  obtain ⟨k0, k1, k4⟩ := Has.c2 (g := w.heap.size + 1 + 1) (x := .int .i64 0) (y := .int .i64 0) (t := 23) T1.out (by simp)
  obtain ⟨k5, k6⟩ := frozen2 (T1.out.row (b := w.heap.size + 1 + 1) (cs := #[.int .i64 0, .int .i64 0]) (t := 23) (by simp))
  have T2 := Lib.hid (Has.put2 (g := w.heap.size + 1 + 1) (x := .int .i64 0) (y := .int .i64 0) (t := 23) (M := [(w.heap.size, #[.int .i64 a, .int .i64 b], 23)]) T1.out (.int .i64 x) (.int .i64 y) (by simp) (by simp <;> omega))
  go_wp2
  refine bodyPost_ret (res_cell_tmp rfl _ _ (w.heap.size + 1 + 1) 23 #[.int .i64 x, .int .i64 y] (0, 0) _ rfl (T2.out.row (by simp)) Try.underlying23 rfl info23) rfl ?_
  exact ⟨rfl, T2.out.1⟩
set_option maxHeartbeats 4000000 in
theorem alaw_raw (a b c d p q r s x0 y0 z0 u0 e0 x1 y1 z1 u1 e1 x2 y2 z2 u2 e2 x3 y3 z3 u3 e3 : Int)
    (A0 : Hid (∀ w : World, Calls Try.prog 20 #[.int .i64 0, .agg #[.int .i64 a, .int .i64 b, .int .i64 c, .int .i64 d], .agg #[.int .i64 p, .int .i64 q, .int .i64 r, .int .i64 s]] w fun e w' => e = .returned (.tuple #[.agg #[.int .i64 x0, .int .i64 y0, .int .i64 z0, .int .i64 u0], .int .i64 e0]) ∧ Below w.heap.size w w'))
    (R0 : Hid (∀ w : World, Calls Try.prog 21 #[.int .i64 0, .agg #[.int .i64 a, .int .i64 b, .int .i64 c, .int .i64 d], .agg #[.int .i64 p, .int .i64 q, .int .i64 r, .int .i64 s]] w fun e w' => e = .returned (.tuple #[.agg #[.int .i64 x0, .int .i64 y0, .int .i64 z0, .int .i64 u0], .int .i64 e0]) ∧ Below w.heap.size w w'))
    (A1 : Hid (∀ w : World, Calls Try.prog 20 #[.int .i64 1, .agg #[.int .i64 a, .int .i64 b, .int .i64 c, .int .i64 d], .agg #[.int .i64 p, .int .i64 q, .int .i64 r, .int .i64 s]] w fun e w' => e = .returned (.tuple #[.agg #[.int .i64 x1, .int .i64 y1, .int .i64 z1, .int .i64 u1], .int .i64 e1]) ∧ Below w.heap.size w w'))
    (R1 : Hid (∀ w : World, Calls Try.prog 21 #[.int .i64 1, .agg #[.int .i64 a, .int .i64 b, .int .i64 c, .int .i64 d], .agg #[.int .i64 p, .int .i64 q, .int .i64 r, .int .i64 s]] w fun e w' => e = .returned (.tuple #[.agg #[.int .i64 x1, .int .i64 y1, .int .i64 z1, .int .i64 u1], .int .i64 e1]) ∧ Below w.heap.size w w'))
    (A2 : Hid (∀ w : World, Calls Try.prog 20 #[.int .i64 2, .agg #[.int .i64 a, .int .i64 b, .int .i64 c, .int .i64 d], .agg #[.int .i64 p, .int .i64 q, .int .i64 r, .int .i64 s]] w fun e w' => e = .returned (.tuple #[.agg #[.int .i64 x2, .int .i64 y2, .int .i64 z2, .int .i64 u2], .int .i64 e2]) ∧ Below w.heap.size w w'))
    (R2 : Hid (∀ w : World, Calls Try.prog 21 #[.int .i64 2, .agg #[.int .i64 a, .int .i64 b, .int .i64 c, .int .i64 d], .agg #[.int .i64 p, .int .i64 q, .int .i64 r, .int .i64 s]] w fun e w' => e = .returned (.tuple #[.agg #[.int .i64 x2, .int .i64 y2, .int .i64 z2, .int .i64 u2], .int .i64 e2]) ∧ Below w.heap.size w w'))
    (A3 : Hid (∀ w : World, Calls Try.prog 20 #[.int .i64 3, .agg #[.int .i64 a, .int .i64 b, .int .i64 c, .int .i64 d], .agg #[.int .i64 p, .int .i64 q, .int .i64 r, .int .i64 s]] w fun e w' => e = .returned (.tuple #[.agg #[.int .i64 x3, .int .i64 y3, .int .i64 z3, .int .i64 u3], .int .i64 e3]) ∧ Below w.heap.size w w'))
    (R3 : Hid (∀ w : World, Calls Try.prog 21 #[.int .i64 3, .agg #[.int .i64 a, .int .i64 b, .int .i64 c, .int .i64 d], .agg #[.int .i64 p, .int .i64 q, .int .i64 r, .int .i64 s]] w fun e w' => e = .returned (.tuple #[.agg #[.int .i64 x3, .int .i64 y3, .int .i64 z3, .int .i64 u3], .int .i64 e3]) ∧ Below w.heap.size w w'))
    (AW : Hid (∀ w : World, Calls Try.prog 19 #[] w fun e w' => e = .returned (.bool true) ∧ Below w.heap.size w w'))
    (w : World) : Calls Try.prog 4 #[.agg #[.int .i64 a, .int .i64 b, .int .i64 c, .int .i64 d], .agg #[.int .i64 p, .int .i64 q, .int .i64 r, .int .i64 s]] w fun e w' => e = .returned (.bool true) ∧ Below w.heap.size w w' := by
  have T0 := Lib.hid (two0 w #[.int .i64 a, .int .i64 b, .int .i64 c, .int .i64 d] #[.int .i64 p, .int .i64 q, .int .i64 r, .int .i64 s] 25 25)
  go_enter Try.func4, Try.ntmps4
  go_upto_region 1 with fail
  generalize (w.alloc (.cells #[.int .i64 a, .int .i64 b, .int .i64 c, .int .i64 d] 25)).alloc (.cells #[.int .i64 p, .int .i64 q, .int .i64 r, .int .i64 s] 25) = W0 at *
  go_wp2_with fail
  go_loopw [10] (fun vi wr => ∃ k : Int, vi = .int .i64 k ∧ 0 ≤ k ∧ k ≤ 4 ∧ Hid (Has w [(w.heap.size + 1, #[.int .i64 p, .int .i64 q, .int .i64 r, .int .i64 s], 25), (w.heap.size, #[.int .i64 a, .int .i64 b, .int .i64 c, .int .i64 d], 25)] wr)) (fun vi _ => (4 - intOf vi).toNat)
  case atStart => exact ⟨0, rfl, by omega, by omega, T0⟩
  case round =>
    clear T0
    obtain ⟨k, rfl, hk0, hk4, H⟩ := hrel
    have hk : k = 0 ∨ k = 1 ∨ k = 2 ∨ k = 3 ∨ k = 4 := by omega
    clear hk0 hk4
    rcases hk with rfl | rfl | rfl | rfl | rfl
    · skip
      obtain ⟨h0, h1, h2, h3, h4⟩ := Has.c4 (g := w.heap.size) (x := .int .i64 a) (y := .int .i64 b) (z := .int .i64 c) (u := .int .i64 d) (t := 25) H.out (by simp)
      obtain ⟨j0, j1, j2, j3, j4⟩ := Has.c4 (g := w.heap.size + 1) (x := .int .i64 p) (y := .int .i64 q) (z := .int .i64 r) (u := .int .i64 s) (t := 25) H.out (by simp)
      go_wp2_with fail
      with_reducible refine (A0.out _).mono ?_
      rintro e w1 ⟨rfl, hb⟩
      have T1 := Lib.hid ((H.out.step hb).alloc #[.int .i64 x0, .int .i64 y0, .int .i64 z0, .int .i64 u0] 25)
      clear hb H h0 h1 h2 h3 h4 j0 j1 j2 j3 j4
      go_upto_region 5 with fail
      generalize w1.alloc (.cells #[.int .i64 x0, .int .i64 y0, .int .i64 z0, .int .i64 u0] 25) = yy1 at *
      generalize w1.heap.size = ga at *
      obtain ⟨h0, h1, h2, h3, h4⟩ := Has.c4 (g := w.heap.size) (x := .int .i64 a) (y := .int .i64 b) (z := .int .i64 c) (u := .int .i64 d) (t := 25) T1.out (by simp)
      obtain ⟨j0, j1, j2, j3, j4⟩ := Has.c4 (g := w.heap.size + 1) (x := .int .i64 p) (y := .int .i64 q) (z := .int .i64 r) (u := .int .i64 s) (t := 25) T1.out (by simp)
      go_wp2_with fail
      with_reducible refine (R0.out _).mono ?_
      rintro e w2 ⟨rfl, hb⟩
      have T2 := Lib.hid ((T1.out.step hb).alloc #[.int .i64 x0, .int .i64 y0, .int .i64 z0, .int .i64 u0] 25)
      clear hb T1 h0 h1 h2 h3 h4 j0 j1 j2 j3 j4
      go_upto_region 6 with fail
      generalize w2.alloc (.cells #[.int .i64 x0, .int .i64 y0, .int .i64 z0, .int .i64 u0] 25) = yy2 at *
      generalize w2.heap.size = gb at *
      obtain ⟨h0, h1, h2, h3, h4⟩ := Has.c4 (g := ga) (x := .int .i64 x0) (y := .int .i64 y0) (z := .int .i64 z0) (u := .int .i64 u0) (t := 25) T2.out (by simp)
      obtain ⟨j0, j1, j2, j3, j4⟩ := Has.c4 (g := gb) (x := .int .i64 x0) (y := .int .i64 y0) (z := .int .i64 z0) (u := .int .i64 u0) (t := 25) T2.out (by simp)
      go_wp2_with fail
      go_roundw
      case rel => exact ⟨1, (by first | rfl | trivial), by omega, by omega, T2.out.sub (by simp)⟩
      case measure => simp [intOf]
    · skip
      obtain ⟨h0, h1, h2, h3, h4⟩ := Has.c4 (g := w.heap.size) (x := .int .i64 a) (y := .int .i64 b) (z := .int .i64 c) (u := .int .i64 d) (t := 25) H.out (by simp)
      obtain ⟨j0, j1, j2, j3, j4⟩ := Has.c4 (g := w.heap.size + 1) (x := .int .i64 p) (y := .int .i64 q) (z := .int .i64 r) (u := .int .i64 s) (t := 25) H.out (by simp)
      go_wp2_with fail
      with_reducible refine (A1.out _).mono ?_
      rintro e w1 ⟨rfl, hb⟩
      have T1 := Lib.hid ((H.out.step hb).alloc #[.int .i64 x1, .int .i64 y1, .int .i64 z1, .int .i64 u1] 25)
      clear hb H h0 h1 h2 h3 h4 j0 j1 j2 j3 j4
      go_upto_region 5 with fail
      generalize w1.alloc (.cells #[.int .i64 x1, .int .i64 y1, .int .i64 z1, .int .i64 u1] 25) = yy1 at *
      generalize w1.heap.size = ga at *
      obtain ⟨h0, h1, h2, h3, h4⟩ := Has.c4 (g := w.heap.size) (x := .int .i64 a) (y := .int .i64 b) (z := .int .i64 c) (u := .int .i64 d) (t := 25) T1.out (by simp)
      obtain ⟨j0, j1, j2, j3, j4⟩ := Has.c4 (g := w.heap.size + 1) (x := .int .i64 p) (y := .int .i64 q) (z := .int .i64 r) (u := .int .i64 s) (t := 25) T1.out (by simp)
      go_wp2_with fail
      with_reducible refine (R1.out _).mono ?_
      rintro e w2 ⟨rfl, hb⟩
      have T2 := Lib.hid ((T1.out.step hb).alloc #[.int .i64 x1, .int .i64 y1, .int .i64 z1, .int .i64 u1] 25)
      clear hb T1 h0 h1 h2 h3 h4 j0 j1 j2 j3 j4
      go_upto_region 6 with fail
      generalize w2.alloc (.cells #[.int .i64 x1, .int .i64 y1, .int .i64 z1, .int .i64 u1] 25) = yy2 at *
      generalize w2.heap.size = gb at *
      obtain ⟨h0, h1, h2, h3, h4⟩ := Has.c4 (g := ga) (x := .int .i64 x1) (y := .int .i64 y1) (z := .int .i64 z1) (u := .int .i64 u1) (t := 25) T2.out (by simp)
      obtain ⟨j0, j1, j2, j3, j4⟩ := Has.c4 (g := gb) (x := .int .i64 x1) (y := .int .i64 y1) (z := .int .i64 z1) (u := .int .i64 u1) (t := 25) T2.out (by simp)
      go_wp2_with fail
      go_roundw
      case rel => exact ⟨2, (by first | rfl | trivial), by omega, by omega, T2.out.sub (by simp)⟩
      case measure => simp [intOf]
    · skip
      obtain ⟨h0, h1, h2, h3, h4⟩ := Has.c4 (g := w.heap.size) (x := .int .i64 a) (y := .int .i64 b) (z := .int .i64 c) (u := .int .i64 d) (t := 25) H.out (by simp)
      obtain ⟨j0, j1, j2, j3, j4⟩ := Has.c4 (g := w.heap.size + 1) (x := .int .i64 p) (y := .int .i64 q) (z := .int .i64 r) (u := .int .i64 s) (t := 25) H.out (by simp)
      go_wp2_with fail
      with_reducible refine (A2.out _).mono ?_
      rintro e w1 ⟨rfl, hb⟩
      have T1 := Lib.hid ((H.out.step hb).alloc #[.int .i64 x2, .int .i64 y2, .int .i64 z2, .int .i64 u2] 25)
      clear hb H h0 h1 h2 h3 h4 j0 j1 j2 j3 j4
      go_upto_region 5 with fail
      generalize w1.alloc (.cells #[.int .i64 x2, .int .i64 y2, .int .i64 z2, .int .i64 u2] 25) = yy1 at *
      generalize w1.heap.size = ga at *
      obtain ⟨h0, h1, h2, h3, h4⟩ := Has.c4 (g := w.heap.size) (x := .int .i64 a) (y := .int .i64 b) (z := .int .i64 c) (u := .int .i64 d) (t := 25) T1.out (by simp)
      obtain ⟨j0, j1, j2, j3, j4⟩ := Has.c4 (g := w.heap.size + 1) (x := .int .i64 p) (y := .int .i64 q) (z := .int .i64 r) (u := .int .i64 s) (t := 25) T1.out (by simp)
      go_wp2_with fail
      with_reducible refine (R2.out _).mono ?_
      rintro e w2 ⟨rfl, hb⟩
      have T2 := Lib.hid ((T1.out.step hb).alloc #[.int .i64 x2, .int .i64 y2, .int .i64 z2, .int .i64 u2] 25)
      clear hb T1 h0 h1 h2 h3 h4 j0 j1 j2 j3 j4
      go_upto_region 6 with fail
      generalize w2.alloc (.cells #[.int .i64 x2, .int .i64 y2, .int .i64 z2, .int .i64 u2] 25) = yy2 at *
      generalize w2.heap.size = gb at *
      obtain ⟨h0, h1, h2, h3, h4⟩ := Has.c4 (g := ga) (x := .int .i64 x2) (y := .int .i64 y2) (z := .int .i64 z2) (u := .int .i64 u2) (t := 25) T2.out (by simp)
      obtain ⟨j0, j1, j2, j3, j4⟩ := Has.c4 (g := gb) (x := .int .i64 x2) (y := .int .i64 y2) (z := .int .i64 z2) (u := .int .i64 u2) (t := 25) T2.out (by simp)
      go_wp2_with fail
      go_roundw
      case rel => exact ⟨3, (by first | rfl | trivial), by omega, by omega, T2.out.sub (by simp)⟩
      case measure => simp [intOf]
    · skip
      obtain ⟨h0, h1, h2, h3, h4⟩ := Has.c4 (g := w.heap.size) (x := .int .i64 a) (y := .int .i64 b) (z := .int .i64 c) (u := .int .i64 d) (t := 25) H.out (by simp)
      obtain ⟨j0, j1, j2, j3, j4⟩ := Has.c4 (g := w.heap.size + 1) (x := .int .i64 p) (y := .int .i64 q) (z := .int .i64 r) (u := .int .i64 s) (t := 25) H.out (by simp)
      go_wp2_with fail
      with_reducible refine (A3.out _).mono ?_
      rintro e w1 ⟨rfl, hb⟩
      have T1 := Lib.hid ((H.out.step hb).alloc #[.int .i64 x3, .int .i64 y3, .int .i64 z3, .int .i64 u3] 25)
      clear hb H h0 h1 h2 h3 h4 j0 j1 j2 j3 j4
      go_upto_region 5 with fail
      generalize w1.alloc (.cells #[.int .i64 x3, .int .i64 y3, .int .i64 z3, .int .i64 u3] 25) = yy1 at *
      generalize w1.heap.size = ga at *
      obtain ⟨h0, h1, h2, h3, h4⟩ := Has.c4 (g := w.heap.size) (x := .int .i64 a) (y := .int .i64 b) (z := .int .i64 c) (u := .int .i64 d) (t := 25) T1.out (by simp)
      obtain ⟨j0, j1, j2, j3, j4⟩ := Has.c4 (g := w.heap.size + 1) (x := .int .i64 p) (y := .int .i64 q) (z := .int .i64 r) (u := .int .i64 s) (t := 25) T1.out (by simp)
      go_wp2_with fail
      with_reducible refine (R3.out _).mono ?_
      rintro e w2 ⟨rfl, hb⟩
      have T2 := Lib.hid ((T1.out.step hb).alloc #[.int .i64 x3, .int .i64 y3, .int .i64 z3, .int .i64 u3] 25)
      clear hb T1 h0 h1 h2 h3 h4 j0 j1 j2 j3 j4
      go_upto_region 6 with fail
      generalize w2.alloc (.cells #[.int .i64 x3, .int .i64 y3, .int .i64 z3, .int .i64 u3] 25) = yy2 at *
      generalize w2.heap.size = gb at *
      obtain ⟨h0, h1, h2, h3, h4⟩ := Has.c4 (g := ga) (x := .int .i64 x3) (y := .int .i64 y3) (z := .int .i64 z3) (u := .int .i64 u3) (t := 25) T2.out (by simp)
      obtain ⟨j0, j1, j2, j3, j4⟩ := Has.c4 (g := gb) (x := .int .i64 x3) (y := .int .i64 y3) (z := .int .i64 z3) (u := .int .i64 u3) (t := 25) T2.out (by simp)
      go_wp2_with fail
      go_roundw
      case rel => exact ⟨4, (by first | rfl | trivial), by omega, by omega, T2.out.sub (by simp)⟩
      case measure => simp [intOf]
    · skip
      go_wp2_with fail
      with_reducible refine (AW.out _).mono ?_
      rintro e w1 ⟨rfl, hb⟩
      have T1 := Lib.hid (H.out.step hb)
      go_wp2
      go_ret
      exact ⟨rfl, T1.out.1⟩
end Go.Proofs.Ytbiegbnncnjnmaa.Iv
