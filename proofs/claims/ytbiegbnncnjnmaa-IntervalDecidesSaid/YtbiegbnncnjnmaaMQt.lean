/- The contracts of layer 4 (interval), the reference's and the program's, by the same functions of integers. The contracts of the program's Sub and Mul. The contracts of the program's Div and Compare. awake; the walks of IntervalCheck, IntervalOrder, IntervalArithmetic. -/
import Derived.Test.YtbiegbnncnjnmaaMId
import Derived.Test.YtbiegbnncnjnmaaMQb
import Derived.Test.YtbiegbnncnjnmaaMQa
import Derived.Test.YtbiegbnncnjnmaaMPo
import Derived.Test.YtbiegbnncnjnmaaMQh
import Derived.Test.YtbiegbnncnjnmaaMQn
import Derived.Test.YtbiegbnncnjnmaaMLa
set_option linter.unusedVariables false
set_option linter.unusedSimpArgs false
namespace Go.Proofs.Ytbiegbnncnjnmaa.Iv
open Go.RowKit
open Go.Proofs.Ytbiegbnncnjnmaa.Rat (inI)

theorem hidV {f : FuncId} {args : Array Value} {v v' : Value} (h : Hid (∀ w : World, Calls Try.prog f args w fun e w' => e = .returned v ∧ Below w.heap.size w w')) (e : v = v') : Hid (∀ w : World, Calls Try.prog f args w fun e w' => e = .returned v' ∧ Below w.heap.size w w') := e ▸ h
theorem prV (c : Prop) [Decidable c] (u v : Int × Int × Int) :
    (if c then (if u.2.2 = 0 then (if v.2.2 = 0 then Value.tuple #[.agg #[.int .i64 u.1, .int .i64 u.2.1, .int .i64 v.1, .int .i64 v.2.1], .int .i64 0] else .tuple #[.agg #[.int .i64 0, .int .i64 0, .int .i64 0, .int .i64 0], .int .i64 v.2.2]) else .tuple #[.agg #[.int .i64 0, .int .i64 0, .int .i64 0, .int .i64 0], .int .i64 u.2.2]) else .tuple #[.agg #[.int .i64 0, .int .i64 0, .int .i64 0, .int .i64 0], .int .i64 1]) =
      .tuple #[.agg #[.int .i64 (if c then pr u v else (((0, 0, 0, 0) : I4), (1 : Int))).1.1, .int .i64 (if c then pr u v else (((0, 0, 0, 0) : I4), (1 : Int))).1.2.1, .int .i64 (if c then pr u v else (((0, 0, 0, 0) : I4), (1 : Int))).1.2.2.1, .int .i64 (if c then pr u v else (((0, 0, 0, 0) : I4), (1 : Int))).1.2.2.2], .int .i64 (if c then pr u v else ((0, 0, 0, 0), 1)).2] := by
  unfold pr
  split
  · split
    · split <;> rfl
    · rfl
  · rfl
theorem imin4 (x y : I4) (hx : in4 x) (hy : in4 y) : Hid (∀ w : World, Calls Try.prog 25 #[.agg #[.int .i64 x.1, .int .i64 x.2.1, .int .i64 x.2.2.1, .int .i64 x.2.2.2], .agg #[.int .i64 y.1, .int .i64 y.2.1, .int .i64 y.2.2.1, .int .i64 y.2.2.2]] w fun e w' => e = .returned (.agg #[.int .i64 (mn x y).1, .int .i64 (mn x y).2.1, .int .i64 (mn x y).2.2.1, .int .i64 (mn x y).2.2.2]) ∧ Below w.heap.size w w') :=
  hidV (imin_any x.1 x.2.1 x.2.2.1 x.2.2.2 y.1 y.2.1 y.2.2.1 y.2.2.2 hx.1 hx.2.1 hx.2.2.1 hx.2.2.2 hy.1 hy.2.1 hy.2.2.1 hy.2.2.2) (by
  unfold mn ok2
  split <;> rfl)
theorem imax4 (x y : I4) (hx : in4 x) (hy : in4 y) : Hid (∀ w : World, Calls Try.prog 27 #[.agg #[.int .i64 x.1, .int .i64 x.2.1, .int .i64 x.2.2.1, .int .i64 x.2.2.2], .agg #[.int .i64 y.1, .int .i64 y.2.1, .int .i64 y.2.2.1, .int .i64 y.2.2.2]] w fun e w' => e = .returned (.agg #[.int .i64 (mx x y).1, .int .i64 (mx x y).2.1, .int .i64 (mx x y).2.2.1, .int .i64 (mx x y).2.2.2]) ∧ Below w.heap.size w w') :=
  hidV (imax_any x.1 x.2.1 x.2.2.1 x.2.2.2 y.1 y.2.1 y.2.2.1 y.2.2.2 hx.1 hx.2.1 hx.2.2.1 hx.2.2.2 hy.1 hy.2.1 hy.2.2.1 hy.2.2.2) (by
  unfold mx ok2
  split <;> rfl)
theorem ihull4 (x y : I4) (hx : in4 x) (hy : in4 y) : Hid (∀ w : World, Calls Try.prog 23 #[.agg #[.int .i64 x.1, .int .i64 x.2.1, .int .i64 x.2.2.1, .int .i64 x.2.2.2], .agg #[.int .i64 y.1, .int .i64 y.2.1, .int .i64 y.2.2.1, .int .i64 y.2.2.2]] w fun e w' => e = .returned (.agg #[.int .i64 (hu x y).1, .int .i64 (hu x y).2.1, .int .i64 (hu x y).2.2.1, .int .i64 (hu x y).2.2.2]) ∧ Below w.heap.size w w') :=
  hidV (ihull_any x.1 x.2.1 x.2.2.1 x.2.2.2 y.1 y.2.1 y.2.2.1 y.2.2.2 hx.1 hx.2.1 hx.2.2.1 hx.2.2.2 hy.1 hy.2.1 hy.2.2.1 hy.2.2.2) (by
  unfold hu ok2
  split <;> rfl)
theorem icontains4 (x y : I4) (hx : in4 x) (hy : in4 y) : Hid (∀ w : World, Calls Try.prog 18 #[.agg #[.int .i64 x.1, .int .i64 x.2.1, .int .i64 x.2.2.1, .int .i64 x.2.2.2], .agg #[.int .i64 y.1, .int .i64 y.2.1, .int .i64 y.2.2.1, .int .i64 y.2.2.2]] w fun e w' => e = .returned (.bool (ct x y)) ∧ Below w.heap.size w w') := icontains_any x.1 x.2.1 x.2.2.1 x.2.2.2 y.1 y.2.1 y.2.2.1 y.2.2.2 hx.1 hx.2.1 hx.2.2.1 hx.2.2.2 hy.1 hy.2.1 hy.2.2.1 hy.2.2.2
theorem icheck4 (x : I4) (hx : in4 x) : Hid (∀ w : World, Calls Try.prog 14 #[.agg #[.int .i64 x.1, .int .i64 x.2.1, .int .i64 x.2.2.1, .int .i64 x.2.2.2]] w fun e w' => e = .returned (.int .i64 (ck x)) ∧ Below w.heap.size w w') := icheck_any x.1 x.2.1 x.2.2.1 x.2.2.2 hx.1 hx.2.1 hx.2.2.1 hx.2.2.2
theorem iadd4 (x y : I4) (hx : in4 x) (hy : in4 y) : Hid (∀ w : World, Calls Try.prog 47 #[.agg #[.int .i64 x.1, .int .i64 x.2.1, .int .i64 x.2.2.1, .int .i64 x.2.2.2], .agg #[.int .i64 y.1, .int .i64 y.2.1, .int .i64 y.2.2.1, .int .i64 y.2.2.2]] w fun e w' => e = .returned (.tuple #[.agg #[.int .i64 (ad x y).1.1, .int .i64 (ad x y).1.2.1, .int .i64 (ad x y).1.2.2.1, .int .i64 (ad x y).1.2.2.2], .int .i64 (ad x y).2]) ∧ Below w.heap.size w w') := hidV (iadd_any x.1 x.2.1 x.2.2.1 x.2.2.2 y.1 y.2.1 y.2.2.1 y.2.2.2 hx.1 hx.2.1 hx.2.2.1 hx.2.2.2 hy.1 hy.2.1 hy.2.2.1 hy.2.2.2) (prV _ _ _)
theorem isub4 (x y : I4) (hx : in4 x) (hy : in4 y) : Hid (∀ w : World, Calls Try.prog 48 #[.agg #[.int .i64 x.1, .int .i64 x.2.1, .int .i64 x.2.2.1, .int .i64 x.2.2.2], .agg #[.int .i64 y.1, .int .i64 y.2.1, .int .i64 y.2.2.1, .int .i64 y.2.2.2]] w fun e w' => e = .returned (.tuple #[.agg #[.int .i64 (sb x y).1.1, .int .i64 (sb x y).1.2.1, .int .i64 (sb x y).1.2.2.1, .int .i64 (sb x y).1.2.2.2], .int .i64 (sb x y).2]) ∧ Below w.heap.size w w') := hidV (isub_any x.1 x.2.1 x.2.2.1 x.2.2.2 y.1 y.2.1 y.2.2.1 y.2.2.2 hx.1 hx.2.1 hx.2.2.1 hx.2.2.2 hy.1 hy.2.1 hy.2.2.1 hy.2.2.2) (prV _ _ _)
theorem imul4 (x y : I4) (hx : in4 x) (hy : in4 y) : Hid (∀ w : World, Calls Try.prog 49 #[.agg #[.int .i64 x.1, .int .i64 x.2.1, .int .i64 x.2.2.1, .int .i64 x.2.2.2], .agg #[.int .i64 y.1, .int .i64 y.2.1, .int .i64 y.2.2.1, .int .i64 y.2.2.2]] w fun e w' => e = .returned (.tuple #[.agg #[.int .i64 (mu x y).1.1, .int .i64 (mu x y).1.2.1, .int .i64 (mu x y).1.2.2.1, .int .i64 (mu x y).1.2.2.2], .int .i64 (mu x y).2]) ∧ Below w.heap.size w w') := hidV (imul_any x.1 x.2.1 x.2.2.1 x.2.2.2 y.1 y.2.1 y.2.2.1 y.2.2.2 hx.1 hx.2.1 hx.2.2.1 hx.2.2.2 hy.1 hy.2.1 hy.2.2.1 hy.2.2.2) (by
  unfold mu ok2
  split <;> rfl)
theorem idiv4 (x y : I4) (hx : in4 x) (hy : in4 y) : Hid (∀ w : World, Calls Try.prog 50 #[.agg #[.int .i64 x.1, .int .i64 x.2.1, .int .i64 x.2.2.1, .int .i64 x.2.2.2], .agg #[.int .i64 y.1, .int .i64 y.2.1, .int .i64 y.2.2.1, .int .i64 y.2.2.2]] w fun e w' => e = .returned (.tuple #[.agg #[.int .i64 (dv x y).1.1, .int .i64 (dv x y).1.2.1, .int .i64 (dv x y).1.2.2.1, .int .i64 (dv x y).1.2.2.2], .int .i64 (dv x y).2]) ∧ Below w.heap.size w w') := hidV (idiv_any x.1 x.2.1 x.2.2.1 x.2.2.2 y.1 y.2.1 y.2.2.1 y.2.2.2 hx.1 hx.2.1 hx.2.2.1 hx.2.2.2 hy.1 hy.2.1 hy.2.2.1 hy.2.2.2) (by
  unfold dv ok2
  split
  · split
    · rfl
    · split <;> rfl
  · rfl)
theorem icompare4 (op : Int) (x y : I4) (hx : in4 x) (hy : in4 y) : Hid (∀ w : World, Calls Try.prog 29 #[.int .i64 op, .agg #[.int .i64 x.1, .int .i64 x.2.1, .int .i64 x.2.2.1, .int .i64 x.2.2.2], .agg #[.int .i64 y.1, .int .i64 y.2.1, .int .i64 y.2.2.1, .int .i64 y.2.2.2]] w fun e w' => e = .returned (.int .i64 (cp op x y)) ∧ Below w.heap.size w w') := icompare_any op x.1 x.2.1 x.2.2.1 x.2.2.2 y.1 y.2.1 y.2.2.1 y.2.2.2 hx.1 hx.2.1 hx.2.2.1 hx.2.2.2 hy.1 hy.2.1 hy.2.2.1 hy.2.2.2
theorem pck (n d : Int) (i : inI n) (j : inI d) : Hid (∀ w : World, Calls Try.prog 36 #[.agg #[.int .i64 n, .int .i64 d]] w fun e w' => e = .returned (.int .i64 (cv n d)) ∧ Below w.heap.size w w') := Lib.hid fun w => by
  unfold cv
  by_cases h : Rat.chk n d
  · rw [if_pos h]
    exact Pro.check_yes n d h w
  · rw [if_neg h]
    exact Pro.check_no n d i j h w
theorem pcm (n1 d1 n2 d2 : Int) (i1 : inI n1) (j1 : inI d1) (i2 : inI n2) (j2 : inI d2) : Hid (∀ w : World, Calls Try.prog 37 #[.agg #[.int .i64 n1, .int .i64 d1], .agg #[.int .i64 n2, .int .i64 d2]] w fun e w' => e = .returned (.int .i64 (Rat.cmpOut n1 d1 n2 d2)) ∧ Below w.heap.size w w') :=
  Lib.hid fun w => Pro.compare_any n1 d1 n2 d2 i1 j1 i2 j2 w
theorem pad (n1 d1 n2 d2 : Int) (i1 : inI n1) (j1 : inI d1) (i2 : inI n2) (j2 : inI d2) : Hid (∀ w : World, Calls Try.prog 60 #[.agg #[.int .i64 n1, .int .i64 d1], .agg #[.int .i64 n2, .int .i64 d2]] w fun e w' => e = .returned (.tuple #[.agg #[.int .i64 (opT (· + ·) n1 d1 n2 d2).1, .int .i64 (opT (· + ·) n1 d1 n2 d2).2.1], .int .i64 (opT (· + ·) n1 d1 n2 d2).2.2]) ∧ Below w.heap.size w w') := Lib.hid fun w => by
  rw [← opT_out]
  exact Pro.add_any n1 d1 n2 d2 i1 j1 i2 j2 w
theorem psb (n1 d1 n2 d2 : Int) (i1 : inI n1) (j1 : inI d1) (i2 : inI n2) (j2 : inI d2) : Hid (∀ w : World, Calls Try.prog 34 #[.agg #[.int .i64 n1, .int .i64 d1], .agg #[.int .i64 n2, .int .i64 d2]] w fun e w' => e = .returned (.tuple #[.agg #[.int .i64 (opT (· - ·) n1 d1 n2 d2).1, .int .i64 (opT (· - ·) n1 d1 n2 d2).2.1], .int .i64 (opT (· - ·) n1 d1 n2 d2).2.2]) ∧ Below w.heap.size w w') := Lib.hid fun w => by
  rw [← opT_out]
  exact Pro.sub_any n1 d1 n2 d2 i1 j1 i2 j2 w
theorem pmu (n1 d1 n2 d2 : Int) (i1 : inI n1) (j1 : inI d1) (i2 : inI n2) (j2 : inI d2) : Hid (∀ w : World, Calls Try.prog 70 #[.agg #[.int .i64 n1, .int .i64 d1], .agg #[.int .i64 n2, .int .i64 d2]] w fun e w' => e = .returned (.tuple #[.agg #[.int .i64 (opT (· * ·) n1 d1 n2 d2).1, .int .i64 (opT (· * ·) n1 d1 n2 d2).2.1], .int .i64 (opT (· * ·) n1 d1 n2 d2).2.2]) ∧ Below w.heap.size w w') := Lib.hid fun w => by
  rw [← opT_out]
  exact Pro.mul_any n1 d1 n2 d2 i1 j1 i2 j2 w
theorem pdv (n1 d1 n2 d2 : Int) (i1 : inI n1) (j1 : inI d1) (i2 : inI n2) (j2 : inI d2) : Hid (∀ w : World, Calls Try.prog 71 #[.agg #[.int .i64 n1, .int .i64 d1], .agg #[.int .i64 n2, .int .i64 d2]] w fun e w' => e = .returned (.tuple #[.agg #[.int .i64 (opD n1 d1 n2 d2).1, .int .i64 (opD n1 d1 n2 d2).2.1], .int .i64 (opD n1 d1 n2 d2).2.2]) ∧ Below w.heap.size w w') := Lib.hid fun w => by
  have q := Pro.div_any n1 d1 n2 d2 i1 j1 i2 j2 w
  unfold Rat.divOut at q
  unfold opD
  by_cases h : Rat.chk n1 d1 ∧ Rat.chk n2 d2 ∧ n2 = 0
  · rw [if_pos h] at q ⊢
    exact q
  · rw [if_neg h] at q ⊢
    rw [← opT_out]
    exact q
theorem pcheck4 (x : I4) (hx : in4 x) : Hid (∀ w : World, Calls Try.prog 13 #[.agg #[.int .i64 x.1, .int .i64 x.2.1, .int .i64 x.2.2.1, .int .i64 x.2.2.2]] w fun e w' => e = .returned (.int .i64 (ck x)) ∧ Below w.heap.size w w') := Lib.hid fun w => pcheck_raw x.1 x.2.1 x.2.2.1 x.2.2.2 _ _ _ (pck _ _ hx.1 hx.2.1) (pck _ _ hx.2.2.1 hx.2.2.2) (pcm _ _ _ _ hx.1 hx.2.1 hx.2.2.1 hx.2.2.2) w
theorem pvalid4 (x y : I4) (hx : in4 x) (hy : in4 y) : Hid (∀ w : World, Calls Try.prog 40 #[.agg #[.int .i64 x.1, .int .i64 x.2.1, .int .i64 x.2.2.1, .int .i64 x.2.2.2], .agg #[.int .i64 y.1, .int .i64 y.2.1, .int .i64 y.2.2.1, .int .i64 y.2.2.2]] w fun e w' => e = .returned (.bool (ok2 x y)) ∧ Below w.heap.size w w') := Lib.hid fun w => pvalid_raw x.1 x.2.1 x.2.2.1 x.2.2.2 y.1 y.2.1 y.2.2.1 y.2.2.2 _ _ (pcheck4 x hx) (pcheck4 y hy) w
theorem pcontains4 (x y : I4) (hx : in4 x) (hy : in4 y) : Hid (∀ w : World, Calls Try.prog 17 #[.agg #[.int .i64 x.1, .int .i64 x.2.1, .int .i64 x.2.2.1, .int .i64 x.2.2.2], .agg #[.int .i64 y.1, .int .i64 y.2.1, .int .i64 y.2.2.1, .int .i64 y.2.2.2]] w fun e w' => e = .returned (.bool (ct x y)) ∧ Below w.heap.size w w') := Lib.hid fun w => pcontains_raw x.1 x.2.1 x.2.2.1 x.2.2.2 y.1 y.2.1 y.2.2.1 y.2.2.2 _ _ _ (pvalid4 x y hx hy) (pcm _ _ _ _ hx.1 hx.2.1 hy.1 hy.2.1) (pcm _ _ _ _ hy.2.2.1 hy.2.2.2 hx.2.2.1 hx.2.2.2) w
theorem pwidth4 (x : I4) (hx : in4 x) : Hid (∀ w : World, Calls Try.prog 11 #[.agg #[.int .i64 x.1, .int .i64 x.2.1, .int .i64 x.2.2.1, .int .i64 x.2.2.2]] w fun e w' => e = .returned (if ck x = 0 then .tuple #[.agg #[.int .i64 (opT (· - ·) x.2.2.1 x.2.2.2 x.1 x.2.1).1, .int .i64 (opT (· - ·) x.2.2.1 x.2.2.2 x.1 x.2.1).2.1], .int .i64 (opT (· - ·) x.2.2.1 x.2.2.2 x.1 x.2.1).2.2] else .tuple #[.agg #[.int .i64 0, .int .i64 0], .int .i64 1]) ∧ Below w.heap.size w w') := Lib.hid fun w => pwidth_raw x.1 x.2.1 x.2.2.1 x.2.2.2 _ _ _ _ (pcheck4 x hx) (psb _ _ _ _ hx.2.2.1 hx.2.2.2 hx.1 hx.2.1) w
theorem iwidth4 (x : I4) (hx : in4 x) : Hid (∀ w : World, Calls Try.prog 12 #[.agg #[.int .i64 x.1, .int .i64 x.2.1, .int .i64 x.2.2.1, .int .i64 x.2.2.2]] w fun e w' => e = .returned (if ck x = 0 then .tuple #[.agg #[.int .i64 (opT (· - ·) x.2.2.1 x.2.2.2 x.1 x.2.1).1, .int .i64 (opT (· - ·) x.2.2.1 x.2.2.2 x.1 x.2.1).2.1], .int .i64 (opT (· - ·) x.2.2.1 x.2.2.2 x.1 x.2.1).2.2] else .tuple #[.agg #[.int .i64 0, .int .i64 0], .int .i64 1]) ∧ Below w.heap.size w w') := iwidth_any x.1 x.2.1 x.2.2.1 x.2.2.2 hx.1 hx.2.1 hx.2.2.1 hx.2.2.2
/-- The lesser, the greater one, as the program chooses. -/
def les' (a b p q : Int) : Int × Int := (if Rat.cmpOut a b p q < 0 then a else p, if Rat.cmpOut a b p q < 0 then b else q)
def gre' (a b p q : Int) : Int × Int := (if 0 < Rat.cmpOut a b p q then a else p, if 0 < Rat.cmpOut a b p q then b else q)
theorem les'_eq {a b p q : Int} {X Y : _root_.Rat} (h : Val a b X) (h' : Val p q Y) : les' a b p q = les a b p q := by
  unfold les' les
  rw [cmp_val h h']
  by_cases e : cmpQ X Y < 0
  · rw [if_pos e, if_pos e, if_pos (by omega), if_pos (by omega)]
  · rw [if_neg e, if_neg e]
    by_cases e' : cmpQ X Y ≤ 0
    · have : X = Y := cmpQ_zero.1 (by omega)
      subst this
      obtain ⟨e1, e2⟩ := h.uniq h'
      rw [if_pos e', if_pos e', e1, e2]
    · rw [if_neg e', if_neg e']
theorem gre'_eq {a b p q : Int} {X Y : _root_.Rat} (h : Val a b X) (h' : Val p q Y) : gre' a b p q = gre a b p q := by
  unfold gre' gre
  rw [cmp_val h h']
  by_cases e : 0 < cmpQ X Y
  · rw [if_pos e, if_pos e, if_pos (by omega), if_pos (by omega)]
  · rw [if_neg e, if_neg e]
    by_cases e' : 0 ≤ cmpQ X Y
    · have : X = Y := cmpQ_zero.1 (by omega)
      subst this
      obtain ⟨e1, e2⟩ := h.uniq h'
      rw [if_pos e', if_pos e', e1, e2]
    · rw [if_neg e', if_neg e']
theorem ok2_vals {x y : I4} (h : ok2 x y = true) : ∃ L1 H1 L2 H2, V4 x L1 H1 ∧ V4 y L2 H2 := by
  obtain ⟨h1, h2⟩ := ok2_iff.1 h
  obtain ⟨L1, H1, v1⟩ := ck_zero.1 h1
  obtain ⟨L2, H2, v2⟩ := ck_zero.1 h2
  exact ⟨L1, H1, L2, H2, v1, v2⟩
theorem plesser4 (n1 d1 n2 d2 : Int) (i1 : inI n1) (j1 : inI d1) (i2 : inI n2) (j2 : inI d2) : Hid (∀ w : World, Calls Try.prog 51 #[.agg #[.int .i64 n1, .int .i64 d1], .agg #[.int .i64 n2, .int .i64 d2]] w fun e w' => e = .returned (.agg #[.int .i64 (les' n1 d1 n2 d2).1, .int .i64 (les' n1 d1 n2 d2).2]) ∧ Below w.heap.size w w') := Lib.hid fun w => plesser_raw n1 d1 n2 d2 _ (pcm n1 d1 n2 d2 i1 j1 i2 j2) w
theorem pgreater4 (n1 d1 n2 d2 : Int) (i1 : inI n1) (j1 : inI d1) (i2 : inI n2) (j2 : inI d2) : Hid (∀ w : World, Calls Try.prog 52 #[.agg #[.int .i64 n1, .int .i64 d1], .agg #[.int .i64 n2, .int .i64 d2]] w fun e w' => e = .returned (.agg #[.int .i64 (gre' n1 d1 n2 d2).1, .int .i64 (gre' n1 d1 n2 d2).2]) ∧ Below w.heap.size w w') := Lib.hid fun w => pgreater_raw n1 d1 n2 d2 _ (pcm n1 d1 n2 d2 i1 j1 i2 j2) w
theorem pmin4 (x y : I4) (hx : in4 x) (hy : in4 y) : Hid (∀ w : World, Calls Try.prog 24 #[.agg #[.int .i64 x.1, .int .i64 x.2.1, .int .i64 x.2.2.1, .int .i64 x.2.2.2], .agg #[.int .i64 y.1, .int .i64 y.2.1, .int .i64 y.2.2.1, .int .i64 y.2.2.2]] w fun e w' => e = .returned (.agg #[.int .i64 (mn x y).1, .int .i64 (mn x y).2.1, .int .i64 (mn x y).2.2.1, .int .i64 (mn x y).2.2.2]) ∧ Below w.heap.size w w') := hidV (Lib.hid fun w => pmin_raw x.1 x.2.1 x.2.2.1 x.2.2.2 y.1 y.2.1 y.2.2.1 y.2.2.2 _ _ _ _ _ (pvalid4 x y hx hy) (plesser4 _ _ _ _ hx.1 hx.2.1 hy.1 hy.2.1) (plesser4 _ _ _ _ hx.2.2.1 hx.2.2.2 hy.2.2.1 hy.2.2.2) w) (by
  by_cases h : ok2 x y = true
  · obtain ⟨L1, H1, L2, H2, v1, v2⟩ := ok2_vals h
    rw [if_pos h, les'_eq v1.1 v2.1, les'_eq v1.2.1 v2.2.1]
    unfold mn
    rw [if_pos h]
  · rw [if_neg h]
    unfold mn
    rw [if_neg h])
theorem pmax4 (x y : I4) (hx : in4 x) (hy : in4 y) : Hid (∀ w : World, Calls Try.prog 26 #[.agg #[.int .i64 x.1, .int .i64 x.2.1, .int .i64 x.2.2.1, .int .i64 x.2.2.2], .agg #[.int .i64 y.1, .int .i64 y.2.1, .int .i64 y.2.2.1, .int .i64 y.2.2.2]] w fun e w' => e = .returned (.agg #[.int .i64 (mx x y).1, .int .i64 (mx x y).2.1, .int .i64 (mx x y).2.2.1, .int .i64 (mx x y).2.2.2]) ∧ Below w.heap.size w w') := hidV (Lib.hid fun w => pmax_raw x.1 x.2.1 x.2.2.1 x.2.2.2 y.1 y.2.1 y.2.2.1 y.2.2.2 _ _ _ _ _ (pvalid4 x y hx hy) (pgreater4 _ _ _ _ hx.1 hx.2.1 hy.1 hy.2.1) (pgreater4 _ _ _ _ hx.2.2.1 hx.2.2.2 hy.2.2.1 hy.2.2.2) w) (by
  by_cases h : ok2 x y = true
  · obtain ⟨L1, H1, L2, H2, v1, v2⟩ := ok2_vals h
    rw [if_pos h, gre'_eq v1.1 v2.1, gre'_eq v1.2.1 v2.2.1]
    unfold mx
    rw [if_pos h]
  · rw [if_neg h]
    unfold mx
    rw [if_neg h])
theorem phull4 (x y : I4) (hx : in4 x) (hy : in4 y) : Hid (∀ w : World, Calls Try.prog 22 #[.agg #[.int .i64 x.1, .int .i64 x.2.1, .int .i64 x.2.2.1, .int .i64 x.2.2.2], .agg #[.int .i64 y.1, .int .i64 y.2.1, .int .i64 y.2.2.1, .int .i64 y.2.2.2]] w fun e w' => e = .returned (.agg #[.int .i64 (hu x y).1, .int .i64 (hu x y).2.1, .int .i64 (hu x y).2.2.1, .int .i64 (hu x y).2.2.2]) ∧ Below w.heap.size w w') := hidV (Lib.hid fun w => phull_raw x.1 x.2.1 x.2.2.1 x.2.2.2 y.1 y.2.1 y.2.2.1 y.2.2.2 _ _ _ _ _ (pvalid4 x y hx hy) (plesser4 _ _ _ _ hx.1 hx.2.1 hy.1 hy.2.1) (pgreater4 _ _ _ _ hx.2.2.1 hx.2.2.2 hy.2.2.1 hy.2.2.2) w) (by
  by_cases h : ok2 x y = true
  · obtain ⟨L1, H1, L2, H2, v1, v2⟩ := ok2_vals h
    rw [if_pos h, les'_eq v1.1 v2.1, gre'_eq v1.2.1 v2.2.1]
    have u : hu x y = ((les x.1 x.2.1 y.1 y.2.1).1, (les x.1 x.2.1 y.1 y.2.1).2, (gre x.2.2.1 x.2.2.2 y.2.2.1 y.2.2.2).1, (gre x.2.2.1 x.2.2.2 y.2.2.1 y.2.2.2).2) :=
      V4.uniq (hu_val v1 v2) ⟨les_val v1.1 v2.1, gre_val v1.2.1 v2.2.1, (hu_val v1 v2).2.2⟩
    rw [u]
  · rw [if_neg h]
    unfold hu
    rw [if_neg h])
theorem padd4 (x y : I4) (hx : in4 x) (hy : in4 y) : Hid (∀ w : World, Calls Try.prog 45 #[.agg #[.int .i64 x.1, .int .i64 x.2.1, .int .i64 x.2.2.1, .int .i64 x.2.2.2], .agg #[.int .i64 y.1, .int .i64 y.2.1, .int .i64 y.2.2.1, .int .i64 y.2.2.2]] w fun e w' => e = .returned (.tuple #[.agg #[.int .i64 (ad x y).1.1, .int .i64 (ad x y).1.2.1, .int .i64 (ad x y).1.2.2.1, .int .i64 (ad x y).1.2.2.2], .int .i64 (ad x y).2]) ∧ Below w.heap.size w w') := hidV (Lib.hid fun w => padd_raw x.1 x.2.1 x.2.2.1 x.2.2.2 y.1 y.2.1 y.2.2.1 y.2.2.2 _ _ _ _ _ _ _ (pvalid4 x y hx hy) (pad _ _ _ _ hx.1 hx.2.1 hy.1 hy.2.1) (pad _ _ _ _ hx.2.2.1 hx.2.2.2 hy.2.2.1 hy.2.2.2) w) (prV _ _ _)
end Go.Proofs.Ytbiegbnncnjnmaa.Iv
namespace Go.Proofs.Ytbiegbnncnjnmaa.Iv
open Go.RowKit Go.Shelf
open Go.Proofs.Ytbiegbnncnjnmaa.Rat (inI)

theorem tup_inj {a b c a' b' c' : Int} (h : Value.tuple #[.agg #[.int .i64 a, .int .i64 b], .int .i64 c] = .tuple #[.agg #[.int .i64 a', .int .i64 b'], .int .i64 c']) : a = a' ∧ b = b' ∧ c = c' := by
  simp only [Value.tuple.injEq, Array.mk.injEq, List.cons.injEq, Value.agg.injEq, Value.int.injEq, true_and, and_true] at h
  exact ⟨h.1.1, h.1.2, h.2⟩
/-- The other sign. -/
def ng (n : Int) : Int := IntKind.i64.wrap (-n)
theorem ng_in (n : Int) : inI (ng n) := Pro.wrap_inI _
theorem ng_ng {n : Int} (h : inI n) : ng (ng n) = n := by
  unfold ng
  unfold Rat.inI at h
  rw [IntKind.wrap_i64, IntKind.wrap_i64]
  omega
theorem opT_ng {n1 d1 n2 d2 : Int} (i : inI n2) : opT (· + ·) n1 d1 (ng n2) d2 = opT (· - ·) n1 d1 n2 d2 := by
  have h := Pro.sub_add n1 d1 n2 d2 i
  rw [opT_out, opT_out] at h
  obtain ⟨h1, h2, h3⟩ := tup_inj h
  exact Prod.ext h1.symm (Prod.ext h2.symm h3.symm)
theorem ng_val {n d : Int} {Q : _root_.Rat} (h : Val n d Q) : Val (ng n) d (-Q) := by
  obtain ⟨D, rfl, c, rfl⟩ := h
  have e : ng n = -n := by
    obtain ⟨_, ⟨h1, h2⟩, _⟩ := c
    unfold ng
    rw [IntKind.wrap_i64]
    omega
  rw [e]
  refine ⟨D, rfl, ?_, ?_⟩
  · obtain ⟨h1, ⟨h2, h3⟩, h4⟩ := c
    exact ⟨h1, ⟨by omega, by omega⟩, by rw [Int.natAbs_neg]; exact h4⟩
  · unfold Rat.toQ
    rw [_root_.Rat.neg_mkRat]
def neg4 (y : I4) : I4 := (ng y.2.2.1, y.2.2.2, ng y.1, y.2.1)
theorem neg4_in {y : I4} (h : in4 y) : in4 (neg4 y) := ⟨ng_in _, h.2.2.2, ng_in _, h.2.1⟩
theorem neg4_val {y : I4} {L R : _root_.Rat} (h : V4 y L R) : V4 (neg4 y) (-R) (-L) := ⟨ng_val h.2.1, ng_val h.1, Rat.neg_le_neg h.2.2⟩
theorem neg4_neg4 {y : I4} (h : in4 y) : neg4 (neg4 y) = y := by
  obtain ⟨p, q, r, s⟩ := y
  unfold neg4
  simp only [ng_ng h.1, ng_ng h.2.2.1]
theorem neg4_ck {y : I4} (h : in4 y) : ck (neg4 y) = 0 ↔ ck y = 0 := by
  constructor
  · intro h'
    obtain ⟨L, R, v⟩ := ck_zero.1 h'
    have := neg4_val v
    rw [neg4_neg4 h] at this
    exact this.ck
  · intro h'
    obtain ⟨L, R, v⟩ := ck_zero.1 h'
    exact (neg4_val v).ck
theorem sb_ad (x : I4) {y : I4} (hy : in4 y) : ad x (neg4 y) = sb x y := by
  have e : ok2 x (neg4 y) = ok2 x y := by
    rw [Bool.eq_iff_iff, ok2_iff, ok2_iff, neg4_ck hy]
  unfold ad sb
  rw [e]
  unfold neg4
  simp only [opT_ng hy.1, opT_ng hy.2.2.1]
theorem psub4 (x y : I4) (hx : in4 x) (hy : in4 y) : Hid (∀ w : World, Calls Try.prog 46 #[.agg #[.int .i64 x.1, .int .i64 x.2.1, .int .i64 x.2.2.1, .int .i64 x.2.2.2], .agg #[.int .i64 y.1, .int .i64 y.2.1, .int .i64 y.2.2.1, .int .i64 y.2.2.2]] w fun e w' => e = .returned (.tuple #[.agg #[.int .i64 (sb x y).1.1, .int .i64 (sb x y).1.2.1, .int .i64 (sb x y).1.2.2.1, .int .i64 (sb x y).1.2.2.2], .int .i64 (sb x y).2]) ∧ Below w.heap.size w w') := Lib.hid fun w => by
  have A := padd4 x (neg4 y) hx (neg4_in hy)
  rw [sb_ad x hy] at A
  exact psub_raw x.1 x.2.1 x.2.2.1 x.2.2.2 y.1 y.2.1 y.2.2.1 y.2.2.2 (ng y.2.2.1) (ng y.1) _ _ _ _ _ (Lib.hid fun w => pneg_raw y.2.2.1 y.2.2.2 _ rfl w) (Lib.hid fun w => pneg_raw y.1 y.2.1 _ rfl w) A w
theorem wid_self (a b : Int) : wid (a, b, a, b) a b = (a, b, a, b) := by
  unfold wid
  simp only [ite_self]
theorem wid_lo (x : I4) (p q : Int) : (Rat.cmpOut p q x.1 x.2.1 < 0 ∧ p = (wid x p q).1 ∧ q = (wid x p q).2.1) ∨ (¬ Rat.cmpOut p q x.1 x.2.1 < 0 ∧ x.1 = (wid x p q).1 ∧ x.2.1 = (wid x p q).2.1) := by
  unfold wid
  by_cases h : Rat.cmpOut p q x.1 x.2.1 < 0
  · refine .inl ⟨h, ?_, ?_⟩ <;> simp only [if_pos h]
  · refine .inr ⟨h, ?_, ?_⟩ <;> simp only [if_neg h]
theorem wid_hi (x : I4) (p q : Int) : (0 < Rat.cmpOut p q x.2.2.1 x.2.2.2 ∧ p = (wid x p q).2.2.1 ∧ q = (wid x p q).2.2.2) ∨ (¬ 0 < Rat.cmpOut p q x.2.2.1 x.2.2.2 ∧ x.2.2.1 = (wid x p q).2.2.1 ∧ x.2.2.2 = (wid x p q).2.2.2) := by
  unfold wid
  by_cases h : 0 < Rat.cmpOut p q x.2.2.1 x.2.2.2
  · refine .inl ⟨h, ?_, ?_⟩ <;> simp only [if_pos h]
  · refine .inr ⟨h, ?_, ?_⟩ <;> simp only [if_neg h]
theorem span4_mul (t : Int → Int → Int → Int → Int × Int × Int) (ht : ∀ n1 d1 n2 d2, inI (t n1 d1 n2 d2).1 ∧ inI (t n1 d1 n2 d2).2.1) (x y : I4) (hx : in4 x) (hy : in4 y)
    (C : ∀ n1 d1 n2 d2, inI n1 → inI d1 → inI n2 → inI d2 → Hid (∀ w : World, Calls Try.prog 70 #[.agg #[.int .i64 n1, .int .i64 d1], .agg #[.int .i64 n2, .int .i64 d2]] w fun e w' => e = .returned (.tuple #[.agg #[.int .i64 (t n1 d1 n2 d2).1, .int .i64 (t n1 d1 n2 d2).2.1], .int .i64 (t n1 d1 n2 d2).2.2]) ∧ Below w.heap.size w w')) :
    Hid (∀ w : World, Calls Try.prog 69 #[.func (.func 70) #[] #[], .agg #[.int .i64 x.1, .int .i64 x.2.1, .int .i64 x.2.2.1, .int .i64 x.2.2.2], .agg #[.int .i64 y.1, .int .i64 y.2.1, .int .i64 y.2.2.1, .int .i64 y.2.2.2]] w fun e w' => e = .returned (.tuple #[.agg #[.int .i64 (crn t x.1 x.2.1 x.2.2.1 x.2.2.2 y.1 y.2.1 y.2.2.1 y.2.2.2).1.1, .int .i64 (crn t x.1 x.2.1 x.2.2.1 x.2.2.2 y.1 y.2.1 y.2.2.1 y.2.2.2).1.2.1, .int .i64 (crn t x.1 x.2.1 x.2.2.1 x.2.2.2 y.1 y.2.1 y.2.2.1 y.2.2.2).1.2.2.1, .int .i64 (crn t x.1 x.2.1 x.2.2.1 x.2.2.2 y.1 y.2.1 y.2.2.1 y.2.2.2).1.2.2.2], .int .i64 (crn t x.1 x.2.1 x.2.2.1 x.2.2.2 y.1 y.2.1 y.2.2.1 y.2.2.2).2]) ∧ Below w.heap.size w w') := Lib.hid fun w => by
  have i0 := ht x.1 x.2.1 y.1 y.2.1
  have i1 := ht x.1 x.2.1 y.2.2.1 y.2.2.2
  have i2 := ht x.2.2.1 x.2.2.2 y.1 y.2.1
  have i3 := ht x.2.2.1 x.2.2.2 y.2.2.1 y.2.2.2
  obtain ⟨t0, ht0⟩ : ∃ u, t x.1 x.2.1 y.1 y.2.1 = u := ⟨_, rfl⟩
  obtain ⟨t1, ht1⟩ : ∃ u, t x.1 x.2.1 y.2.2.1 y.2.2.2 = u := ⟨_, rfl⟩
  obtain ⟨t2, ht2⟩ : ∃ u, t x.2.2.1 x.2.2.2 y.1 y.2.1 = u := ⟨_, rfl⟩
  obtain ⟨t3, ht3⟩ : ∃ u, t x.2.2.1 x.2.2.2 y.2.2.1 y.2.2.2 = u := ⟨_, rfl⟩
  have C0 := C x.1 x.2.1 y.1 y.2.1 hx.1 hx.2.1 hy.1 hy.2.1
  have C1 := C x.1 x.2.1 y.2.2.1 y.2.2.2 hx.1 hx.2.1 hy.2.2.1 hy.2.2.2
  have C2 := C x.2.2.1 x.2.2.2 y.1 y.2.1 hx.2.2.1 hx.2.2.2 hy.1 hy.2.1
  have C3 := C x.2.2.1 x.2.2.2 y.2.2.1 y.2.2.2 hx.2.2.1 hx.2.2.2 hy.2.2.1 hy.2.2.2
  rw [ht0] at i0 C0
  rw [ht1] at i1 C1
  rw [ht2] at i2 C2
  rw [ht3] at i3 C3
  have hcr : (crn t x.1 x.2.1 x.2.2.1 x.2.2.2 y.1 y.2.1 y.2.2.1 y.2.2.2) = (if t0.2.2 = 0 then if t1.2.2 = 0 then if t2.2.2 = 0 then if t3.2.2 = 0 then ((wid (wid (wid (t0.1, t0.2.1, t0.1, t0.2.1) t1.1 t1.2.1) t2.1 t2.2.1) t3.1 t3.2.1), 0) else ((0, 0, 0, 0), t3.2.2) else ((0, 0, 0, 0), t2.2.2) else ((0, 0, 0, 0), t1.2.2) else ((0, 0, 0, 0), t0.2.2)) := by
    unfold crn
    rw [ht0, ht1, ht2, ht3, wid_self]
  rw [hcr]
  clear hcr ht0 ht1 ht2 ht3 C
  have w0 : in4 (t0.1, t0.2.1, t0.1, t0.2.1) := ⟨i0.1, i0.2, i0.1, i0.2⟩
  have w1 : in4 (wid (t0.1, t0.2.1, t0.1, t0.2.1) t1.1 t1.2.1) := wid_in _ _ _ w0 i1.1 i1.2
  have w2 : in4 (wid (wid (t0.1, t0.2.1, t0.1, t0.2.1) t1.1 t1.2.1) t2.1 t2.2.1) := wid_in _ _ _ w1 i2.1 i2.2
  have MN := Lib.hid fun (g cap : Nat) (W : World) (hg : g < W.heap.size) e0 e1 e2 e3 => pminf_raw g cap t0.1 t0.2.1 t1.1 t1.2.1 t2.1 t2.2.1 t3.1 t3.2.1 (wid (t0.1, t0.2.1, t0.1, t0.2.1) t1.1 t1.2.1).1 (wid (t0.1, t0.2.1, t0.1, t0.2.1) t1.1 t1.2.1).2.1 (wid (wid (t0.1, t0.2.1, t0.1, t0.2.1) t1.1 t1.2.1) t2.1 t2.2.1).1 (wid (wid (t0.1, t0.2.1, t0.1, t0.2.1) t1.1 t1.2.1) t2.1 t2.2.1).2.1 (wid (wid (wid (t0.1, t0.2.1, t0.1, t0.2.1) t1.1 t1.2.1) t2.1 t2.2.1) t3.1 t3.2.1).1 (wid (wid (wid (t0.1, t0.2.1, t0.1, t0.2.1) t1.1 t1.2.1) t2.1 t2.2.1) t3.1 t3.2.1).2.1 _ _ _ (pcm t1.1 t1.2.1 (t0.1, t0.2.1, t0.1, t0.2.1).1 (t0.1, t0.2.1, t0.1, t0.2.1).2.1 i1.1 i1.2 w0.1 w0.2.1) (pcm t2.1 t2.2.1 (wid (t0.1, t0.2.1, t0.1, t0.2.1) t1.1 t1.2.1).1 (wid (t0.1, t0.2.1, t0.1, t0.2.1) t1.1 t1.2.1).2.1 i2.1 i2.2 w1.1 w1.2.1) (pcm t3.1 t3.2.1 (wid (wid (t0.1, t0.2.1, t0.1, t0.2.1) t1.1 t1.2.1) t2.1 t2.2.1).1 (wid (wid (t0.1, t0.2.1, t0.1, t0.2.1) t1.1 t1.2.1) t2.1 t2.2.1).2.1 i3.1 i3.2 w2.1 w2.2.1) (Lib.hid (wid_lo (t0.1, t0.2.1, t0.1, t0.2.1) t1.1 t1.2.1)) (Lib.hid (wid_lo (wid (t0.1, t0.2.1, t0.1, t0.2.1) t1.1 t1.2.1) t2.1 t2.2.1)) (Lib.hid (wid_lo (wid (wid (t0.1, t0.2.1, t0.1, t0.2.1) t1.1 t1.2.1) t2.1 t2.2.1) t3.1 t3.2.1)) W hg (Lib.hid e0) (Lib.hid e1) (Lib.hid e2) (Lib.hid e3)
  have MX := Lib.hid fun (g cap : Nat) (W : World) (hg : g < W.heap.size) e0 e1 e2 e3 => pmaxf_raw g cap t0.1 t0.2.1 t1.1 t1.2.1 t2.1 t2.2.1 t3.1 t3.2.1 (wid (t0.1, t0.2.1, t0.1, t0.2.1) t1.1 t1.2.1).2.2.1 (wid (t0.1, t0.2.1, t0.1, t0.2.1) t1.1 t1.2.1).2.2.2 (wid (wid (t0.1, t0.2.1, t0.1, t0.2.1) t1.1 t1.2.1) t2.1 t2.2.1).2.2.1 (wid (wid (t0.1, t0.2.1, t0.1, t0.2.1) t1.1 t1.2.1) t2.1 t2.2.1).2.2.2 (wid (wid (wid (t0.1, t0.2.1, t0.1, t0.2.1) t1.1 t1.2.1) t2.1 t2.2.1) t3.1 t3.2.1).2.2.1 (wid (wid (wid (t0.1, t0.2.1, t0.1, t0.2.1) t1.1 t1.2.1) t2.1 t2.2.1) t3.1 t3.2.1).2.2.2 _ _ _ (pcm t1.1 t1.2.1 (t0.1, t0.2.1, t0.1, t0.2.1).2.2.1 (t0.1, t0.2.1, t0.1, t0.2.1).2.2.2 i1.1 i1.2 w0.2.2.1 w0.2.2.2) (pcm t2.1 t2.2.1 (wid (t0.1, t0.2.1, t0.1, t0.2.1) t1.1 t1.2.1).2.2.1 (wid (t0.1, t0.2.1, t0.1, t0.2.1) t1.1 t1.2.1).2.2.2 i2.1 i2.2 w1.2.2.1 w1.2.2.2) (pcm t3.1 t3.2.1 (wid (wid (t0.1, t0.2.1, t0.1, t0.2.1) t1.1 t1.2.1) t2.1 t2.2.1).2.2.1 (wid (wid (t0.1, t0.2.1, t0.1, t0.2.1) t1.1 t1.2.1) t2.1 t2.2.1).2.2.2 i3.1 i3.2 w2.2.2.1 w2.2.2.2) (Lib.hid (wid_hi (t0.1, t0.2.1, t0.1, t0.2.1) t1.1 t1.2.1)) (Lib.hid (wid_hi (wid (t0.1, t0.2.1, t0.1, t0.2.1) t1.1 t1.2.1) t2.1 t2.2.1)) (Lib.hid (wid_hi (wid (wid (t0.1, t0.2.1, t0.1, t0.2.1) t1.1 t1.2.1) t2.1 t2.2.1) t3.1 t3.2.1)) W hg (Lib.hid e0) (Lib.hid e1) (Lib.hid e2) (Lib.hid e3)
  refine callsIn_wide.1 (span_mul x.1 x.2.1 x.2.2.1 x.2.2.2 y.1 y.2.1 y.2.2.1 y.2.2.2 _ _ _ _ _ _ _ _ _ _ _ _ _ _ _ _ _ C0 C1 C2 C3 (Lib.hid fun h => ?_) (Lib.hid fun h0 h => ?_) (Lib.hid fun h0 h1 h => ?_) (Lib.hid fun h0 h1 h2 h => ?_) (Lib.hid fun h0 h1 h2 h3 => ?_) MN MX w)
  · rw [if_neg h]
  · rw [if_pos h0, if_neg h]
  · rw [if_pos h0, if_pos h1, if_neg h]
  · rw [if_pos h0, if_pos h1, if_pos h2, if_neg h]
  · rw [if_pos h0, if_pos h1, if_pos h2, if_pos h3]
theorem span4_div (t : Int → Int → Int → Int → Int × Int × Int) (ht : ∀ n1 d1 n2 d2, inI (t n1 d1 n2 d2).1 ∧ inI (t n1 d1 n2 d2).2.1) (x y : I4) (hx : in4 x) (hy : in4 y)
    (C : ∀ n1 d1 n2 d2, inI n1 → inI d1 → inI n2 → inI d2 → Hid (∀ w : World, Calls Try.prog 71 #[.agg #[.int .i64 n1, .int .i64 d1], .agg #[.int .i64 n2, .int .i64 d2]] w fun e w' => e = .returned (.tuple #[.agg #[.int .i64 (t n1 d1 n2 d2).1, .int .i64 (t n1 d1 n2 d2).2.1], .int .i64 (t n1 d1 n2 d2).2.2]) ∧ Below w.heap.size w w')) :
    Hid (∀ w : World, Calls Try.prog 69 #[.func (.func 71) #[] #[], .agg #[.int .i64 x.1, .int .i64 x.2.1, .int .i64 x.2.2.1, .int .i64 x.2.2.2], .agg #[.int .i64 y.1, .int .i64 y.2.1, .int .i64 y.2.2.1, .int .i64 y.2.2.2]] w fun e w' => e = .returned (.tuple #[.agg #[.int .i64 (crn t x.1 x.2.1 x.2.2.1 x.2.2.2 y.1 y.2.1 y.2.2.1 y.2.2.2).1.1, .int .i64 (crn t x.1 x.2.1 x.2.2.1 x.2.2.2 y.1 y.2.1 y.2.2.1 y.2.2.2).1.2.1, .int .i64 (crn t x.1 x.2.1 x.2.2.1 x.2.2.2 y.1 y.2.1 y.2.2.1 y.2.2.2).1.2.2.1, .int .i64 (crn t x.1 x.2.1 x.2.2.1 x.2.2.2 y.1 y.2.1 y.2.2.1 y.2.2.2).1.2.2.2], .int .i64 (crn t x.1 x.2.1 x.2.2.1 x.2.2.2 y.1 y.2.1 y.2.2.1 y.2.2.2).2]) ∧ Below w.heap.size w w') := Lib.hid fun w => by
  have i0 := ht x.1 x.2.1 y.1 y.2.1
  have i1 := ht x.1 x.2.1 y.2.2.1 y.2.2.2
  have i2 := ht x.2.2.1 x.2.2.2 y.1 y.2.1
  have i3 := ht x.2.2.1 x.2.2.2 y.2.2.1 y.2.2.2
  obtain ⟨t0, ht0⟩ : ∃ u, t x.1 x.2.1 y.1 y.2.1 = u := ⟨_, rfl⟩
  obtain ⟨t1, ht1⟩ : ∃ u, t x.1 x.2.1 y.2.2.1 y.2.2.2 = u := ⟨_, rfl⟩
  obtain ⟨t2, ht2⟩ : ∃ u, t x.2.2.1 x.2.2.2 y.1 y.2.1 = u := ⟨_, rfl⟩
  obtain ⟨t3, ht3⟩ : ∃ u, t x.2.2.1 x.2.2.2 y.2.2.1 y.2.2.2 = u := ⟨_, rfl⟩
  have C0 := C x.1 x.2.1 y.1 y.2.1 hx.1 hx.2.1 hy.1 hy.2.1
  have C1 := C x.1 x.2.1 y.2.2.1 y.2.2.2 hx.1 hx.2.1 hy.2.2.1 hy.2.2.2
  have C2 := C x.2.2.1 x.2.2.2 y.1 y.2.1 hx.2.2.1 hx.2.2.2 hy.1 hy.2.1
  have C3 := C x.2.2.1 x.2.2.2 y.2.2.1 y.2.2.2 hx.2.2.1 hx.2.2.2 hy.2.2.1 hy.2.2.2
  rw [ht0] at i0 C0
  rw [ht1] at i1 C1
  rw [ht2] at i2 C2
  rw [ht3] at i3 C3
  have hcr : (crn t x.1 x.2.1 x.2.2.1 x.2.2.2 y.1 y.2.1 y.2.2.1 y.2.2.2) = (if t0.2.2 = 0 then if t1.2.2 = 0 then if t2.2.2 = 0 then if t3.2.2 = 0 then ((wid (wid (wid (t0.1, t0.2.1, t0.1, t0.2.1) t1.1 t1.2.1) t2.1 t2.2.1) t3.1 t3.2.1), 0) else ((0, 0, 0, 0), t3.2.2) else ((0, 0, 0, 0), t2.2.2) else ((0, 0, 0, 0), t1.2.2) else ((0, 0, 0, 0), t0.2.2)) := by
    unfold crn
    rw [ht0, ht1, ht2, ht3, wid_self]
  rw [hcr]
  clear hcr ht0 ht1 ht2 ht3 C
  have w0 : in4 (t0.1, t0.2.1, t0.1, t0.2.1) := ⟨i0.1, i0.2, i0.1, i0.2⟩
  have w1 : in4 (wid (t0.1, t0.2.1, t0.1, t0.2.1) t1.1 t1.2.1) := wid_in _ _ _ w0 i1.1 i1.2
  have w2 : in4 (wid (wid (t0.1, t0.2.1, t0.1, t0.2.1) t1.1 t1.2.1) t2.1 t2.2.1) := wid_in _ _ _ w1 i2.1 i2.2
  have MN := Lib.hid fun (g cap : Nat) (W : World) (hg : g < W.heap.size) e0 e1 e2 e3 => pminf_raw g cap t0.1 t0.2.1 t1.1 t1.2.1 t2.1 t2.2.1 t3.1 t3.2.1 (wid (t0.1, t0.2.1, t0.1, t0.2.1) t1.1 t1.2.1).1 (wid (t0.1, t0.2.1, t0.1, t0.2.1) t1.1 t1.2.1).2.1 (wid (wid (t0.1, t0.2.1, t0.1, t0.2.1) t1.1 t1.2.1) t2.1 t2.2.1).1 (wid (wid (t0.1, t0.2.1, t0.1, t0.2.1) t1.1 t1.2.1) t2.1 t2.2.1).2.1 (wid (wid (wid (t0.1, t0.2.1, t0.1, t0.2.1) t1.1 t1.2.1) t2.1 t2.2.1) t3.1 t3.2.1).1 (wid (wid (wid (t0.1, t0.2.1, t0.1, t0.2.1) t1.1 t1.2.1) t2.1 t2.2.1) t3.1 t3.2.1).2.1 _ _ _ (pcm t1.1 t1.2.1 (t0.1, t0.2.1, t0.1, t0.2.1).1 (t0.1, t0.2.1, t0.1, t0.2.1).2.1 i1.1 i1.2 w0.1 w0.2.1) (pcm t2.1 t2.2.1 (wid (t0.1, t0.2.1, t0.1, t0.2.1) t1.1 t1.2.1).1 (wid (t0.1, t0.2.1, t0.1, t0.2.1) t1.1 t1.2.1).2.1 i2.1 i2.2 w1.1 w1.2.1) (pcm t3.1 t3.2.1 (wid (wid (t0.1, t0.2.1, t0.1, t0.2.1) t1.1 t1.2.1) t2.1 t2.2.1).1 (wid (wid (t0.1, t0.2.1, t0.1, t0.2.1) t1.1 t1.2.1) t2.1 t2.2.1).2.1 i3.1 i3.2 w2.1 w2.2.1) (Lib.hid (wid_lo (t0.1, t0.2.1, t0.1, t0.2.1) t1.1 t1.2.1)) (Lib.hid (wid_lo (wid (t0.1, t0.2.1, t0.1, t0.2.1) t1.1 t1.2.1) t2.1 t2.2.1)) (Lib.hid (wid_lo (wid (wid (t0.1, t0.2.1, t0.1, t0.2.1) t1.1 t1.2.1) t2.1 t2.2.1) t3.1 t3.2.1)) W hg (Lib.hid e0) (Lib.hid e1) (Lib.hid e2) (Lib.hid e3)
  have MX := Lib.hid fun (g cap : Nat) (W : World) (hg : g < W.heap.size) e0 e1 e2 e3 => pmaxf_raw g cap t0.1 t0.2.1 t1.1 t1.2.1 t2.1 t2.2.1 t3.1 t3.2.1 (wid (t0.1, t0.2.1, t0.1, t0.2.1) t1.1 t1.2.1).2.2.1 (wid (t0.1, t0.2.1, t0.1, t0.2.1) t1.1 t1.2.1).2.2.2 (wid (wid (t0.1, t0.2.1, t0.1, t0.2.1) t1.1 t1.2.1) t2.1 t2.2.1).2.2.1 (wid (wid (t0.1, t0.2.1, t0.1, t0.2.1) t1.1 t1.2.1) t2.1 t2.2.1).2.2.2 (wid (wid (wid (t0.1, t0.2.1, t0.1, t0.2.1) t1.1 t1.2.1) t2.1 t2.2.1) t3.1 t3.2.1).2.2.1 (wid (wid (wid (t0.1, t0.2.1, t0.1, t0.2.1) t1.1 t1.2.1) t2.1 t2.2.1) t3.1 t3.2.1).2.2.2 _ _ _ (pcm t1.1 t1.2.1 (t0.1, t0.2.1, t0.1, t0.2.1).2.2.1 (t0.1, t0.2.1, t0.1, t0.2.1).2.2.2 i1.1 i1.2 w0.2.2.1 w0.2.2.2) (pcm t2.1 t2.2.1 (wid (t0.1, t0.2.1, t0.1, t0.2.1) t1.1 t1.2.1).2.2.1 (wid (t0.1, t0.2.1, t0.1, t0.2.1) t1.1 t1.2.1).2.2.2 i2.1 i2.2 w1.2.2.1 w1.2.2.2) (pcm t3.1 t3.2.1 (wid (wid (t0.1, t0.2.1, t0.1, t0.2.1) t1.1 t1.2.1) t2.1 t2.2.1).2.2.1 (wid (wid (t0.1, t0.2.1, t0.1, t0.2.1) t1.1 t1.2.1) t2.1 t2.2.1).2.2.2 i3.1 i3.2 w2.2.2.1 w2.2.2.2) (Lib.hid (wid_hi (t0.1, t0.2.1, t0.1, t0.2.1) t1.1 t1.2.1)) (Lib.hid (wid_hi (wid (t0.1, t0.2.1, t0.1, t0.2.1) t1.1 t1.2.1) t2.1 t2.2.1)) (Lib.hid (wid_hi (wid (wid (t0.1, t0.2.1, t0.1, t0.2.1) t1.1 t1.2.1) t2.1 t2.2.1) t3.1 t3.2.1)) W hg (Lib.hid e0) (Lib.hid e1) (Lib.hid e2) (Lib.hid e3)
  refine callsIn_wide.1 (span_div x.1 x.2.1 x.2.2.1 x.2.2.2 y.1 y.2.1 y.2.2.1 y.2.2.2 _ _ _ _ _ _ _ _ _ _ _ _ _ _ _ _ _ C0 C1 C2 C3 (Lib.hid fun h => ?_) (Lib.hid fun h0 h => ?_) (Lib.hid fun h0 h1 h => ?_) (Lib.hid fun h0 h1 h2 h => ?_) (Lib.hid fun h0 h1 h2 h3 => ?_) MN MX w)
  · rw [if_neg h]
  · rw [if_pos h0, if_neg h]
  · rw [if_pos h0, if_pos h1, if_neg h]
  · rw [if_pos h0, if_pos h1, if_pos h2, if_neg h]
  · rw [if_pos h0, if_pos h1, if_pos h2, if_pos h3]
theorem pmul4 (x y : I4) (hx : in4 x) (hy : in4 y) : Hid (∀ w : World, Calls Try.prog 42 #[.agg #[.int .i64 x.1, .int .i64 x.2.1, .int .i64 x.2.2.1, .int .i64 x.2.2.2], .agg #[.int .i64 y.1, .int .i64 y.2.1, .int .i64 y.2.2.1, .int .i64 y.2.2.2]] w fun e w' => e = .returned (.tuple #[.agg #[.int .i64 (mu x y).1.1, .int .i64 (mu x y).1.2.1, .int .i64 (mu x y).1.2.2.1, .int .i64 (mu x y).1.2.2.2], .int .i64 (mu x y).2]) ∧ Below w.heap.size w w') := hidV (Lib.hid fun w => pmul_raw x.1 x.2.1 x.2.2.1 x.2.2.2 y.1 y.2.1 y.2.2.1 y.2.2.2 _ _ _ _ _ _ (pvalid4 x y hx hy) (span4_mul (opT (· * ·)) (fun _ _ _ _ => opT_in _ _ _ _ _) x y hx hy (fun _ _ _ _ i1 j1 i2 j2 => pmu _ _ _ _ i1 j1 i2 j2)) w) (by
  unfold mu
  split <;> rfl)
end Go.Proofs.Ytbiegbnncnjnmaa.Iv
namespace Go.Proofs.Ytbiegbnncnjnmaa.Iv
open Go.RowKit Go.Shelf
open Go.Proofs.Ytbiegbnncnjnmaa.Rat (inI)

theorem zero_val : Val 0 1 0 := ⟨1, rfl, by unfold Rat.chk; decide, by unfold Rat.toQ; exact _root_.Rat.zero_mkRat 1⟩
theorem zero4 : V4 (0, 1, 0, 1) 0 0 := ⟨zero_val, zero_val, Rat.le_refl⟩
theorem zero4_in : in4 (0, 1, 0, 1) := ⟨⟨by decide, by decide⟩, ⟨by decide, by decide⟩, ⟨by decide, by decide⟩, ⟨by decide, by decide⟩⟩
theorem zero_den {d : Int} {Q : _root_.Rat} (h : Val 0 d Q) : d = 1 := by
  have e := h.sign.1.1 rfl
  subst e
  exact (h.uniq zero_val).2
theorem ct_zero {y : I4} {L H : _root_.Rat} (h : V4 y L H) : ct y (0, 1, 0, 1) = decide (y.1 ≤ 0 ∧ 0 ≤ y.2.2.1) := by
  have s1 := h.1.sign
  have s2 := h.2.1.sign
  have e := ct_val h zero4
  rw [Bool.eq_iff_iff, e, decide_eq_true_iff]
  constructor
  · rintro ⟨a, b⟩
    constructor
    · have : ¬ 0 < y.1 := fun c => Rat.not_lt.2 a (s1.2.1.1 c)
      omega
    · have : ¬ y.2.2.1 < 0 := fun c => Rat.not_lt.2 b (s2.2.2.1 c)
      omega
  · rintro ⟨a, b⟩
    exact ⟨Rat.not_lt.1 fun c => by have := s1.2.1.2 c; omega, Rat.not_lt.1 fun c => by have := s2.2.2.2 c; omega⟩
theorem pdiv4 (x y : I4) (hx : in4 x) (hy : in4 y) : Hid (∀ w : World, Calls Try.prog 44 #[.agg #[.int .i64 x.1, .int .i64 x.2.1, .int .i64 x.2.2.1, .int .i64 x.2.2.2], .agg #[.int .i64 y.1, .int .i64 y.2.1, .int .i64 y.2.2.1, .int .i64 y.2.2.2]] w fun e w' => e = .returned (.tuple #[.agg #[.int .i64 (dv x y).1.1, .int .i64 (dv x y).1.2.1, .int .i64 (dv x y).1.2.2.1, .int .i64 (dv x y).1.2.2.2], .int .i64 (dv x y).2]) ∧ Below w.heap.size w w') := Lib.hid fun w => by
  have PO := Lib.hid fun w => ppoint_raw 0 1 w
  have V := pvalid4 x y hx hy
  by_cases hv : ok2 x y = true
  · obtain ⟨L1, H1, L2, H2, v1, v2⟩ := ok2_vals hv
    have CT := pcontains4 y (0, 1, 0, 1) hy zero4_in
    have SP := span4_div opD opD_in x y hx hy (fun _ _ _ _ i1 j1 i2 j2 => pdv _ _ _ _ i1 j1 i2 j2)
    rw [ct_zero v2] at CT
    rw [hv] at V
    unfold dv
    rw [if_pos hv]
    obtain ⟨p, q, r, s⟩ := y
    by_cases hp : p = 0
    · subst hp
      have hq : q = 1 := zero_den v2.1
      subst hq
      by_cases hr : r = 0
      · subst hr
        have hs : s = 1 := zero_den v2.2.1
        subst hs
        rw [if_pos ⟨rfl, rfl⟩]
        exact pdiv_zero x.1 x.2.1 x.2.2.1 x.2.2.2 PO V w
      · rw [if_neg (fun h => hr h.2)]
        by_cases hc : (0 : Int) ≤ 0 ∧ 0 ≤ r
        · rw [if_pos hc]
          rw [decide_eq_true hc] at CT
          exact pdiv_in0 x.1 x.2.1 x.2.2.1 x.2.2.2 r s hr PO V CT w
        · rw [if_neg hc]
          rw [decide_eq_false hc] at CT
          exact pdiv_ok0 x.1 x.2.1 x.2.2.1 x.2.2.2 r s _ _ _ _ _ hr PO V CT SP w
    · rw [if_neg (fun h => hp h.1)]
      by_cases hc : p ≤ 0 ∧ 0 ≤ r
      · rw [if_pos hc]
        rw [decide_eq_true hc] at CT
        exact pdiv_in x.1 x.2.1 x.2.2.1 x.2.2.2 p q r s hp PO V CT w
      · rw [if_neg hc]
        rw [decide_eq_false hc] at CT
        exact pdiv_ok x.1 x.2.1 x.2.2.1 x.2.2.2 p q r s _ _ _ _ _ hp PO V CT SP w
  · unfold dv
    rw [if_neg hv]
    rw [Bool.not_eq_true] at hv
    rw [hv] at V
    exact pdiv_no x.1 x.2.1 x.2.2.1 x.2.2.2 y.1 y.2.1 y.2.2.1 y.2.2.2 PO V w
/-- less, equal: what they answer. -/
def lsv (x y : I4) : Int := if Rat.cmpOut x.2.2.1 x.2.2.2 y.1 y.2.1 < 0 then 1 else if 0 ≤ Rat.cmpOut x.1 x.2.1 y.2.2.1 y.2.2.2 then 0 else -1
def same (x y : I4) : Prop := x.1 = y.1 ∧ x.2.1 = y.2.1 ∧ x.2.2.1 = y.2.2.1 ∧ x.2.2.2 = y.2.2.2 ∧ x.1 = x.2.2.1 ∧ x.2.1 = x.2.2.2
instance (x y : I4) : Decidable (same x y) := by unfold same; infer_instance
def eqv (x y : I4) : Int := if same x y then 1 else if lsv x y = 1 then 0 else if lsv y x = 1 then 0 else -1
theorem pless4 (x y : I4) (hx : in4 x) (hy : in4 y) : Hid (∀ w : World, Calls Try.prog 76 #[.agg #[.int .i64 x.1, .int .i64 x.2.1, .int .i64 x.2.2.1, .int .i64 x.2.2.2], .agg #[.int .i64 y.1, .int .i64 y.2.1, .int .i64 y.2.2.1, .int .i64 y.2.2.2]] w fun e w' => e = .returned (.int .i64 (lsv x y)) ∧ Below w.heap.size w w') := Lib.hid fun w => by
  have M1 := pcm _ _ _ _ hx.2.2.1 hx.2.2.2 hy.1 hy.2.1
  have M2 := pcm _ _ _ _ hx.1 hx.2.1 hy.2.2.1 hy.2.2.2
  unfold lsv
  by_cases h1 : Rat.cmpOut x.2.2.1 x.2.2.2 y.1 y.2.1 < 0
  · rw [if_pos h1]
    exact pless_one x.1 x.2.1 x.2.2.1 x.2.2.2 y.1 y.2.1 y.2.2.1 y.2.2.2 _ _ h1 M1 M2 w
  · rw [if_neg h1]
    by_cases h2 : 0 ≤ Rat.cmpOut x.1 x.2.1 y.2.2.1 y.2.2.2
    · rw [if_pos h2]
      exact pless_zero x.1 x.2.1 x.2.2.1 x.2.2.2 y.1 y.2.1 y.2.2.1 y.2.2.2 _ _ h1 h2 M1 M2 w
    · rw [if_neg h2]
      exact pless_open x.1 x.2.1 x.2.2.1 x.2.2.2 y.1 y.2.1 y.2.2.1 y.2.2.2 _ _ h1 h2 M1 M2 w
theorem pequal4 (x y : I4) (hx : in4 x) (hy : in4 y) : Hid (∀ w : World, Calls Try.prog 74 #[.agg #[.int .i64 x.1, .int .i64 x.2.1, .int .i64 x.2.2.1, .int .i64 x.2.2.2], .agg #[.int .i64 y.1, .int .i64 y.2.1, .int .i64 y.2.2.1, .int .i64 y.2.2.2]] w fun e w' => e = .returned (.int .i64 (eqv x y)) ∧ Below w.heap.size w w') := Lib.hid fun w => by
  have E1 := pless4 x y hx hy
  have E2 := pless4 y x hy hx
  unfold eqv
  by_cases hs : same x y
  · rw [if_pos hs]
    obtain ⟨a, b, c, d⟩ := x
    obtain ⟨p, q, r, s⟩ := y
    obtain ⟨h1, h2, h3, h4, h5, h6⟩ := hs
    simp only at h1 h2 h3 h4 h5 h6
    subst h1 h2 h3 h4 h5 h6
    exact pequal_yes _ _ w
  · rw [if_neg hs]
    by_cases h1 : lsv x y = 1
    · rw [if_pos h1]
      exact pequal_a x.1 x.2.1 x.2.2.1 x.2.2.2 y.1 y.2.1 y.2.2.1 y.2.2.2 _ _ (Lib.hid hs) h1 E1 E2 w
    · rw [if_neg h1]
      by_cases h2 : lsv y x = 1
      · rw [if_pos h2]
        exact pequal_b x.1 x.2.1 x.2.2.1 x.2.2.2 y.1 y.2.1 y.2.2.1 y.2.2.2 _ _ (Lib.hid hs) h1 h2 E1 E2 w
      · rw [if_neg h2]
        exact pequal_no x.1 x.2.1 x.2.2.1 x.2.2.2 y.1 y.2.1 y.2.2.1 y.2.2.2 _ _ (Lib.hid hs) h1 h2 E1 E2 w
theorem cmpQ_range (X Y : _root_.Rat) : cmpQ X Y = -1 ∨ cmpQ X Y = 0 ∨ cmpQ X Y = 1 := by
  unfold cmpQ
  split
  · exact .inl rfl
  · split
    · exact .inr (.inr rfl)
    · exact .inr (.inl rfl)
theorem cp_int {m1 m3 : Int} (r1 : m1 = -1 ∨ m1 = 0 ∨ m1 = 1) (r3 : m3 = -1 ∨ m3 = 0 ∨ m3 = 1) (k1 : m1 < 0 → m3 < 0) (k2 : m1 ≤ 0 → m3 ≤ 0) (l1 l2 e : Int) (h1 : l1 = if m1 < 0 then 1 else if 0 ≤ m3 then 0 else -1) (h2 : l2 = if -m3 < 0 then 1 else if 0 ≤ -m1 then 0 else -1)
    (he : e = if m3 = 0 ∧ m1 = 0 then 1 else if l1 = 1 then 0 else if l2 = 1 then 0 else -1) :
    icmp 5 m1 (-m3) m3 = e ∧ icmp 6 m1 (-m3) m3 = opn e ∧ icmp 7 m1 (-m3) m3 = l1 ∧ icmp 8 m1 (-m3) m3 = opn l2 ∧ icmp 9 m1 (-m3) m3 = l2 ∧ icmp 10 m1 (-m3) m3 = opn l1 := by
  subst h1 h2 he
  rcases r1 with rfl | rfl | rfl <;> rcases r3 with rfl | rfl | rfl
  · decide
  · exact absurd (k1 (by decide)) (by decide)
  · exact absurd (k1 (by decide)) (by decide)
  · decide
  · decide
  · exact absurd (k2 (by decide)) (by decide)
  · decide
  · decide
  · decide
/-- How the ends' comparisons hang together. -/
theorem ends_cmp {L1 H1 L2 H2 : _root_.Rat} (h : L1 ≤ H1) (h' : L2 ≤ H2) : (cmpQ H1 L2 < 0 → cmpQ L1 H2 < 0) ∧ (cmpQ H1 L2 ≤ 0 → cmpQ L1 H2 ≤ 0) ∧ (cmpQ L1 H2 = 0 → cmpQ H1 L2 = 0 → L1 = H1 ∧ L2 = H2 ∧ L1 = L2) := by
  refine ⟨fun e => ?_, fun e => ?_, fun e1 e2 => ?_⟩
  · exact cmpQ_lt.2 (IvMath.lt_le (IvMath.le_lt h (cmpQ_lt.1 e)) h')
  · exact cmpQ_le.2 (Rat.le_trans h (Rat.le_trans (cmpQ_le.1 e) h'))
  · have a := cmpQ_zero.1 e1
    have b := cmpQ_zero.1 e2
    have c : L1 = H1 := Rat.le_antisymm h (by rw [b, a]; exact h')
    exact ⟨c, by rw [← b, ← c, a], by rw [c, b]⟩
theorem cp_same {x y : I4} {L1 H1 L2 H2 : _root_.Rat} (v1 : V4 x L1 H1) (v2 : V4 y L2 H2) :
    cp 5 x y = eqv x y ∧ cp 6 x y = opn (eqv x y) ∧ cp 7 x y = lsv x y ∧ cp 8 x y = opn (lsv y x) ∧ cp 9 x y = lsv y x ∧ cp 10 x y = opn (lsv x y) := by
  have e1 := cmp_val v1.2.1 v2.1
  have e2 := cmp_val v2.2.1 v1.1
  have e3 := cmp_val v1.1 v2.2.1
  have e4 := cmp_val v2.1 v1.2.1
  have n2 := cmpQ_neg L1 H2
  have n4 := cmpQ_neg H1 L2
  obtain ⟨k1, k2, k3⟩ := ends_cmp v1.2.2 v2.2.2
  have hs : same x y ↔ (cmpQ L1 H2 = 0 ∧ cmpQ H1 L2 = 0) := by
    constructor
    · rintro ⟨h1, h2, h3, h4, h5, h6⟩
      have ex : x = y := Prod.ext h1 (Prod.ext h2 (Prod.ext h3 h4))
      subst ex
      obtain ⟨d1, d2⟩ := v1.det v2
      have vl := v1.1
      have vr := v1.2.1
      rw [← h5, ← h6] at vr
      have d3 := vl.det vr
      subst d1 d2
      rw [d3]
      exact ⟨cmpQ_zero.2 rfl, cmpQ_zero.2 rfl⟩
    · rintro ⟨h1, h2⟩
      obtain ⟨c1, c2, c3⟩ := k3 h1 h2
      subst c1 c2 c3
      have ex := v1.uniq v2
      subst ex
      obtain ⟨u1, u2⟩ := v1.1.uniq v1.2.1
      exact ⟨rfl, rfl, rfl, rfl, u1, u2⟩
  have k := cp_int (cmpQ_range H1 L2) (cmpQ_range L1 H2) k1 k2 (lsv x y) (lsv y x) (eqv x y) (by unfold lsv; rw [e1, e3]) (by unfold lsv; rw [e2, e4, n2, n4]) (by unfold eqv; simp only [hs])
  unfold cp
  rw [if_pos (v1.ok2 v2), e1, e2, e3, n2]
  simp only [if_pos (v1.ok2 v2)]
  exact k
theorem pcompare4 (op : Int) (x y : I4) (hx : in4 x) (hy : in4 y) : Hid (∀ w : World, Calls Try.prog 28 #[.int .i64 op, .agg #[.int .i64 x.1, .int .i64 x.2.1, .int .i64 x.2.2.1, .int .i64 x.2.2.2], .agg #[.int .i64 y.1, .int .i64 y.2.1, .int .i64 y.2.2.1, .int .i64 y.2.2.2]] w fun e w' => e = .returned (.int .i64 (cp op x y)) ∧ Below w.heap.size w w') := Lib.hid fun w => by
  have V := pvalid4 x y hx hy
  by_cases hv : ok2 x y = true
  · obtain ⟨L1, H1, L2, H2, v1, v2⟩ := ok2_vals hv
    obtain ⟨c5, c6, c7, c8, c9, c10⟩ := cp_same v1 v2
    rw [hv] at V
    by_cases h5 : op = 5
    · subst h5
      rw [c5]
      exact pcompare5 x.1 x.2.1 x.2.2.1 x.2.2.2 y.1 y.2.1 y.2.2.1 y.2.2.2 _ V (pequal4 x y hx hy) w
    by_cases h6 : op = 6
    · subst h6
      rw [c6]
      exact pcompare6 x.1 x.2.1 x.2.2.1 x.2.2.2 y.1 y.2.1 y.2.2.1 y.2.2.2 _ V (pequal4 x y hx hy) w
    by_cases h7 : op = 7
    · subst h7
      rw [c7]
      exact pcompare7 x.1 x.2.1 x.2.2.1 x.2.2.2 y.1 y.2.1 y.2.2.1 y.2.2.2 _ V (pless4 x y hx hy) w
    by_cases h8 : op = 8
    · subst h8
      rw [c8]
      exact pcompare8 x.1 x.2.1 x.2.2.1 x.2.2.2 y.1 y.2.1 y.2.2.1 y.2.2.2 _ V (pless4 y x hy hx) w
    by_cases h9 : op = 9
    · subst h9
      rw [c9]
      exact pcompare9 x.1 x.2.1 x.2.2.1 x.2.2.2 y.1 y.2.1 y.2.2.1 y.2.2.2 _ V (pless4 y x hy hx) w
    by_cases h10 : op = 10
    · subst h10
      rw [c10]
      exact pcompare10 x.1 x.2.1 x.2.2.1 x.2.2.2 y.1 y.2.1 y.2.2.1 y.2.2.2 _ V (pless4 x y hx hy) w
    have e : cp op x y = -1 := by
      unfold cp icmp
      rw [if_pos hv, if_neg h5, if_neg h6, if_neg h7, if_neg h10, if_neg h8, if_neg h9]
    rw [e]
    exact pcompare_other op x.1 x.2.1 x.2.2.1 x.2.2.2 y.1 y.2.1 y.2.2.1 y.2.2.2 h5 h6 h7 h8 h9 h10 w
  · have e : cp op x y = -1 := by
      unfold cp
      rw [if_neg hv]
    rw [e]
    rw [Bool.not_eq_true] at hv
    rw [hv] at V
    by_cases h5 : op = 5
    · subst h5
      exact pcompare_no5 x.1 x.2.1 x.2.2.1 x.2.2.2 y.1 y.2.1 y.2.2.1 y.2.2.2 V w
    by_cases h6 : op = 6
    · subst h6
      exact pcompare_no6 x.1 x.2.1 x.2.2.1 x.2.2.2 y.1 y.2.1 y.2.2.1 y.2.2.2 V w
    by_cases h7 : op = 7
    · subst h7
      exact pcompare_no7 x.1 x.2.1 x.2.2.1 x.2.2.2 y.1 y.2.1 y.2.2.1 y.2.2.2 V w
    by_cases h8 : op = 8
    · subst h8
      exact pcompare_no8 x.1 x.2.1 x.2.2.1 x.2.2.2 y.1 y.2.1 y.2.2.1 y.2.2.2 V w
    by_cases h9 : op = 9
    · subst h9
      exact pcompare_no9 x.1 x.2.1 x.2.2.1 x.2.2.2 y.1 y.2.1 y.2.2.1 y.2.2.2 V w
    by_cases h10 : op = 10
    · subst h10
      exact pcompare_no10 x.1 x.2.1 x.2.2.1 x.2.2.2 y.1 y.2.1 y.2.2.1 y.2.2.2 V w
    exact pcompare_other op x.1 x.2.1 x.2.2.1 x.2.2.2 y.1 y.2.1 y.2.2.1 y.2.2.2 h5 h6 h7 h8 h9 h10 w
end Go.Proofs.Ytbiegbnncnjnmaa.Iv
namespace Go.Proofs.Ytbiegbnncnjnmaa.Iv
open Go.RowKit
open Go.Proofs.Ytbiegbnncnjnmaa.Rat (inI)

theorem aw1 : mu (-1, 1, 2, 1) (3, 1, 4, 1) = ((-4, 1, 8, 1), 0) := by decide +kernel
theorem aw2 : dv (1, 1, 2, 1) (0, 1, 1, 1) = ((0, 0, 0, 0), 23) := by decide +kernel
theorem aw3 : cp 7 (1, 1, 2, 1) (2, 1, 3, 1) = -1 := by decide +kernel
theorem aw4 : cp 8 (1, 1, 2, 1) (2, 1, 3, 1) = 1 := by decide +kernel
theorem aw5 : ct (1, 1, 3, 1) (2, 1, 3, 1) = true := by decide +kernel
theorem lit4 {a b c d : Int} (h : -1 ≤ a ∧ a ≤ 4 ∧ -1 ≤ b ∧ b ≤ 4 ∧ -1 ≤ c ∧ c ≤ 4 ∧ -1 ≤ d ∧ d ≤ 4) : in4 (a, b, c, d) := ⟨⟨by simp only; omega, by simp only; omega⟩, ⟨by simp only; omega, by simp only; omega⟩, ⟨by simp only; omega, by simp only; omega⟩, ⟨by simp only; omega, by simp only; omega⟩⟩
theorem awake_any : Hid (∀ w : World, Calls Try.prog 19 #[] w fun e w' => e = .returned (.bool true) ∧ Below w.heap.size w w') := Lib.hid fun w => by
  have k1 := pmul4 (-1, 1, 2, 1) (3, 1, 4, 1) (lit4 (by decide)) (lit4 (by decide))
  have k2 := pdiv4 (1, 1, 2, 1) (0, 1, 1, 1) (lit4 (by decide)) (lit4 (by decide))
  have k3 := pcompare4 7 (1, 1, 2, 1) (2, 1, 3, 1) (lit4 (by decide)) (lit4 (by decide))
  have k4 := pcompare4 8 (1, 1, 2, 1) (2, 1, 3, 1) (lit4 (by decide)) (lit4 (by decide))
  have k5 := pcontains4 (1, 1, 3, 1) (2, 1, 3, 1) (lit4 (by decide)) (lit4 (by decide))
  rw [aw1] at k1
  rw [aw2] at k2
  rw [aw3] at k3
  rw [aw4] at k4
  rw [aw5] at k5
  exact awake_raw k1 k2 k3 k4 k5 w
def wd (x : I4) : Int × Int × Int := if ck x = 0 then opT (· - ·) x.2.2.1 x.2.2.2 x.1 x.2.1 else (0, 0, 1)
theorem pwidth5 (x : I4) (hx : in4 x) : Hid (∀ w : World, Calls Try.prog 11 #[.agg #[.int .i64 x.1, .int .i64 x.2.1, .int .i64 x.2.2.1, .int .i64 x.2.2.2]] w fun e w' => e = .returned (.tuple #[.agg #[.int .i64 (wd x).1, .int .i64 (wd x).2.1], .int .i64 (wd x).2.2]) ∧ Below w.heap.size w w') := hidV (pwidth4 x hx) (by
  unfold wd
  split <;> rfl)
theorem iwidth5 (x : I4) (hx : in4 x) : Hid (∀ w : World, Calls Try.prog 12 #[.agg #[.int .i64 x.1, .int .i64 x.2.1, .int .i64 x.2.2.1, .int .i64 x.2.2.2]] w fun e w' => e = .returned (.tuple #[.agg #[.int .i64 (wd x).1, .int .i64 (wd x).2.1], .int .i64 (wd x).2.2]) ∧ Below w.heap.size w w') := hidV (iwidth4 x hx) (by
  unfold wd
  split <;> rfl)
theorem check_walk (x y : I4) (hx : in4 x) (hy : in4 y) (w : World) : Calls Try.prog 3 #[.agg #[.int .i64 x.1, .int .i64 x.2.1, .int .i64 x.2.2.1, .int .i64 x.2.2.2], .agg #[.int .i64 y.1, .int .i64 y.2.1, .int .i64 y.2.2.1, .int .i64 y.2.2.2]] w fun e w' => e = .returned (.bool true) ∧ Below w.heap.size w w' :=
  claw_raw x.1 x.2.1 x.2.2.1 x.2.2.2 y.1 y.2.1 y.2.2.1 y.2.2.2 _ _ _ _ _ (pwidth5 x hx) (iwidth5 x hx) (pcheck4 x hx) (icheck4 x hx) (Lib.hid fun w => ppoint_raw _ _ w) (Lib.hid fun w => ipoint_raw _ _ w) (pcontains4 x y hx hy) (icontains4 x y hx hy) awake_any w
theorem order_walk (op : Int) (x y : I4) (hx : in4 x) (hy : in4 y) (w : World) : Calls Try.prog 5 #[.int .i64 op, .agg #[.int .i64 x.1, .int .i64 x.2.1, .int .i64 x.2.2.1, .int .i64 x.2.2.2], .agg #[.int .i64 y.1, .int .i64 y.2.1, .int .i64 y.2.2.1, .int .i64 y.2.2.2]] w fun e w' => e = .returned (.bool true) ∧ Below w.heap.size w w' :=
  olaw_raw op x.1 x.2.1 x.2.2.1 x.2.2.2 y.1 y.2.1 y.2.2.1 y.2.2.2 _ _ _ _ _ _ _ _ _ _ _ _ _ (phull4 x y hx hy) (ihull4 x y hx hy) (pmin4 x y hx hy) (imin4 x y hx hy) (pmax4 x y hx hy) (imax4 x y hx hy) (pcompare4 op x y hx hy) (icompare4 op x y hx hy) awake_any w
theorem arith0 (x y : I4) (hx : in4 x) (hy : in4 y) : Hid (∀ w : World, Calls Try.prog 20 #[.int .i64 0, .agg #[.int .i64 x.1, .int .i64 x.2.1, .int .i64 x.2.2.1, .int .i64 x.2.2.2], .agg #[.int .i64 y.1, .int .i64 y.2.1, .int .i64 y.2.2.1, .int .i64 y.2.2.2]] w fun e w' => e = .returned (.tuple #[.agg #[.int .i64 (ad x y).1.1, .int .i64 (ad x y).1.2.1, .int .i64 (ad x y).1.2.2.1, .int .i64 (ad x y).1.2.2.2], .int .i64 (ad x y).2]) ∧ Below w.heap.size w w') := Lib.hid fun w => arith0_raw x.1 x.2.1 x.2.2.1 x.2.2.2 y.1 y.2.1 y.2.2.1 y.2.2.2 _ _ _ _ _ (padd4 x y hx hy) w
theorem refer0 (x y : I4) (hx : in4 x) (hy : in4 y) : Hid (∀ w : World, Calls Try.prog 21 #[.int .i64 0, .agg #[.int .i64 x.1, .int .i64 x.2.1, .int .i64 x.2.2.1, .int .i64 x.2.2.2], .agg #[.int .i64 y.1, .int .i64 y.2.1, .int .i64 y.2.2.1, .int .i64 y.2.2.2]] w fun e w' => e = .returned (.tuple #[.agg #[.int .i64 (ad x y).1.1, .int .i64 (ad x y).1.2.1, .int .i64 (ad x y).1.2.2.1, .int .i64 (ad x y).1.2.2.2], .int .i64 (ad x y).2]) ∧ Below w.heap.size w w') := Lib.hid fun w => refer0_raw x.1 x.2.1 x.2.2.1 x.2.2.2 y.1 y.2.1 y.2.2.1 y.2.2.2 _ _ _ _ _ (iadd4 x y hx hy) w
theorem arith1 (x y : I4) (hx : in4 x) (hy : in4 y) : Hid (∀ w : World, Calls Try.prog 20 #[.int .i64 1, .agg #[.int .i64 x.1, .int .i64 x.2.1, .int .i64 x.2.2.1, .int .i64 x.2.2.2], .agg #[.int .i64 y.1, .int .i64 y.2.1, .int .i64 y.2.2.1, .int .i64 y.2.2.2]] w fun e w' => e = .returned (.tuple #[.agg #[.int .i64 (sb x y).1.1, .int .i64 (sb x y).1.2.1, .int .i64 (sb x y).1.2.2.1, .int .i64 (sb x y).1.2.2.2], .int .i64 (sb x y).2]) ∧ Below w.heap.size w w') := Lib.hid fun w => arith1_raw x.1 x.2.1 x.2.2.1 x.2.2.2 y.1 y.2.1 y.2.2.1 y.2.2.2 _ _ _ _ _ (psub4 x y hx hy) w
theorem refer1 (x y : I4) (hx : in4 x) (hy : in4 y) : Hid (∀ w : World, Calls Try.prog 21 #[.int .i64 1, .agg #[.int .i64 x.1, .int .i64 x.2.1, .int .i64 x.2.2.1, .int .i64 x.2.2.2], .agg #[.int .i64 y.1, .int .i64 y.2.1, .int .i64 y.2.2.1, .int .i64 y.2.2.2]] w fun e w' => e = .returned (.tuple #[.agg #[.int .i64 (sb x y).1.1, .int .i64 (sb x y).1.2.1, .int .i64 (sb x y).1.2.2.1, .int .i64 (sb x y).1.2.2.2], .int .i64 (sb x y).2]) ∧ Below w.heap.size w w') := Lib.hid fun w => refer1_raw x.1 x.2.1 x.2.2.1 x.2.2.2 y.1 y.2.1 y.2.2.1 y.2.2.2 _ _ _ _ _ (isub4 x y hx hy) w
theorem arith2 (x y : I4) (hx : in4 x) (hy : in4 y) : Hid (∀ w : World, Calls Try.prog 20 #[.int .i64 2, .agg #[.int .i64 x.1, .int .i64 x.2.1, .int .i64 x.2.2.1, .int .i64 x.2.2.2], .agg #[.int .i64 y.1, .int .i64 y.2.1, .int .i64 y.2.2.1, .int .i64 y.2.2.2]] w fun e w' => e = .returned (.tuple #[.agg #[.int .i64 (mu x y).1.1, .int .i64 (mu x y).1.2.1, .int .i64 (mu x y).1.2.2.1, .int .i64 (mu x y).1.2.2.2], .int .i64 (mu x y).2]) ∧ Below w.heap.size w w') := Lib.hid fun w => arith2_raw x.1 x.2.1 x.2.2.1 x.2.2.2 y.1 y.2.1 y.2.2.1 y.2.2.2 _ _ _ _ _ (pmul4 x y hx hy) w
theorem refer2 (x y : I4) (hx : in4 x) (hy : in4 y) : Hid (∀ w : World, Calls Try.prog 21 #[.int .i64 2, .agg #[.int .i64 x.1, .int .i64 x.2.1, .int .i64 x.2.2.1, .int .i64 x.2.2.2], .agg #[.int .i64 y.1, .int .i64 y.2.1, .int .i64 y.2.2.1, .int .i64 y.2.2.2]] w fun e w' => e = .returned (.tuple #[.agg #[.int .i64 (mu x y).1.1, .int .i64 (mu x y).1.2.1, .int .i64 (mu x y).1.2.2.1, .int .i64 (mu x y).1.2.2.2], .int .i64 (mu x y).2]) ∧ Below w.heap.size w w') := Lib.hid fun w => refer2_raw x.1 x.2.1 x.2.2.1 x.2.2.2 y.1 y.2.1 y.2.2.1 y.2.2.2 _ _ _ _ _ (imul4 x y hx hy) w
theorem arith3 (x y : I4) (hx : in4 x) (hy : in4 y) : Hid (∀ w : World, Calls Try.prog 20 #[.int .i64 3, .agg #[.int .i64 x.1, .int .i64 x.2.1, .int .i64 x.2.2.1, .int .i64 x.2.2.2], .agg #[.int .i64 y.1, .int .i64 y.2.1, .int .i64 y.2.2.1, .int .i64 y.2.2.2]] w fun e w' => e = .returned (.tuple #[.agg #[.int .i64 (dv x y).1.1, .int .i64 (dv x y).1.2.1, .int .i64 (dv x y).1.2.2.1, .int .i64 (dv x y).1.2.2.2], .int .i64 (dv x y).2]) ∧ Below w.heap.size w w') := Lib.hid fun w => arith3_raw x.1 x.2.1 x.2.2.1 x.2.2.2 y.1 y.2.1 y.2.2.1 y.2.2.2 _ _ _ _ _ (pdiv4 x y hx hy) w
theorem refer3 (x y : I4) (hx : in4 x) (hy : in4 y) : Hid (∀ w : World, Calls Try.prog 21 #[.int .i64 3, .agg #[.int .i64 x.1, .int .i64 x.2.1, .int .i64 x.2.2.1, .int .i64 x.2.2.2], .agg #[.int .i64 y.1, .int .i64 y.2.1, .int .i64 y.2.2.1, .int .i64 y.2.2.2]] w fun e w' => e = .returned (.tuple #[.agg #[.int .i64 (dv x y).1.1, .int .i64 (dv x y).1.2.1, .int .i64 (dv x y).1.2.2.1, .int .i64 (dv x y).1.2.2.2], .int .i64 (dv x y).2]) ∧ Below w.heap.size w w') := Lib.hid fun w => refer3_raw x.1 x.2.1 x.2.2.1 x.2.2.2 y.1 y.2.1 y.2.2.1 y.2.2.2 _ _ _ _ _ (idiv4 x y hx hy) w
theorem arithmetic_walk (x y : I4) (hx : in4 x) (hy : in4 y) (w : World) : Calls Try.prog 4 #[.agg #[.int .i64 x.1, .int .i64 x.2.1, .int .i64 x.2.2.1, .int .i64 x.2.2.2], .agg #[.int .i64 y.1, .int .i64 y.2.1, .int .i64 y.2.2.1, .int .i64 y.2.2.2]] w fun e w' => e = .returned (.bool true) ∧ Below w.heap.size w w' :=
  alaw_raw x.1 x.2.1 x.2.2.1 x.2.2.2 y.1 y.2.1 y.2.2.1 y.2.2.2 _ _ _ _ _ _ _ _ _ _ _ _ _ _ _ _ _ _ _ _ (arith0 x y hx hy) (refer0 x y hx hy) (arith1 x y hx hy) (refer1 x y hx hy) (arith2 x y hx hy) (refer2 x y hx hy) (arith3 x y hx hy) (refer3 x y hx hy) awake_any w
end Go.Proofs.Ytbiegbnncnjnmaa.Iv
