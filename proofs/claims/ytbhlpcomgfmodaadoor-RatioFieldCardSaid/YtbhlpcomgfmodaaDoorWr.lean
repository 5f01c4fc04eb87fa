/- The reference's contracts, as the laws' walks spell them. -/
import Derived.Test.YtbhlpcomgfmodaaDoorPY
import Derived.Test.YtbhlpcomgfmodaaDoorRatS
import Derived.Test.YtbhlpcomgfmodaaDoorRatV
set_option linter.unusedVariables false
set_option linter.unusedSimpArgs false
namespace Go.Proofs.YtbhlpcomgfmodaaDoor.Pro
open Go.RowKit

theorem rCheck_yes (n d : Int) (h : Rat.chk n d) (w : World) :
    Calls Tryd.prog 14 #[.agg #[.int .i64 n, .int .i64 d]] w fun e w' => e = .returned (.int .i64 0) ∧ Below w.heap.size w w' := Rat.check_yes n d h w
theorem rCheck_no (n d : Int) (i1 : inI n) (i2 : inI d) (h : ¬ Rat.chk n d) (w : World) :
    Calls Tryd.prog 14 #[.agg #[.int .i64 n, .int .i64 d]] w fun e w' => e = .returned (.int .i64 1) ∧ Below w.heap.size w w' := Rat.check_no n d i1 i2 h w
theorem rFloor_yes (n : Int) (D : Nat) (h : Rat.chk n D) (w : World) :
    Calls Tryd.prog 16 #[.agg #[.int .i64 n, .int .i64 D]] w fun e w' => e = .returned (.int .i64 (n / (D : Int))) ∧ Below w.heap.size w w' := Rat.floor_yes n D h w
theorem rFloor_no (n d : Int) (i1 : inI n) (i2 : inI d) (h : ¬ Rat.chk n d) (w : World) :
    Calls Tryd.prog 16 #[.agg #[.int .i64 n, .int .i64 d]] w fun e w' => e = .returned (.int .i64 0) ∧ Below w.heap.size w w' := Rat.floor_no n d i1 i2 h w
theorem rFormat (n d : Int) (i1 : inI n) (i2 : inI d) (w : World) :
    Calls Tryd.prog 18 #[.agg #[.int .i64 n, .int .i64 d]] w fun e w' => e = .returned (.string (Rat.fmtS n d)) ∧ Below w.heap.size w w' := Rat.format_any n d i1 i2 w
theorem rMake (n d : Int) (i1 : inI n) (i2 : inI d) (h : d ≠ 0) (w : World) :
    Calls Tryd.prog 12 #[.int .i64 n, .int .i64 d] w fun e w' => e = .returned (Rat.makeOut n d) ∧ Below w.heap.size w w' := Rat.make_any n d i1 i2 h w
theorem rMake_zero (n : Int) (w : World) :
    Calls Tryd.prog 12 #[.int .i64 n, .int .i64 0] w fun e w' => e = .returned (.tuple #[.agg #[.int .i64 0, .int .i64 0], .int .i64 26]) ∧ Below w.heap.size w w' := Rat.make_zero n w
theorem rAdd (n1 d1 n2 d2 : Int) (i1 : inI n1) (i2 : inI d1) (i3 : inI n2) (i4 : inI d2) (w : World) :
    Calls Tryd.prog 21 #[.agg #[.int .i64 n1, .int .i64 d1], .agg #[.int .i64 n2, .int .i64 d2]] w fun e w' => e = .returned (Rat.opOut (· + ·) n1 d1 n2 d2) ∧ Below w.heap.size w w' := Rat.refAdd_any n1 d1 n2 d2 i1 i2 i3 i4 w
theorem rSub (n1 d1 n2 d2 : Int) (i1 : inI n1) (i2 : inI d1) (i3 : inI n2) (i4 : inI d2) (w : World) :
    Calls Tryd.prog 23 #[.agg #[.int .i64 n1, .int .i64 d1], .agg #[.int .i64 n2, .int .i64 d2]] w fun e w' => e = .returned (Rat.opOut (· - ·) n1 d1 n2 d2) ∧ Below w.heap.size w w' := Rat.refSub_any n1 d1 n2 d2 i1 i2 i3 i4 w
theorem rMul (n1 d1 n2 d2 : Int) (i1 : inI n1) (i2 : inI d1) (i3 : inI n2) (i4 : inI d2) (w : World) :
    Calls Tryd.prog 25 #[.agg #[.int .i64 n1, .int .i64 d1], .agg #[.int .i64 n2, .int .i64 d2]] w fun e w' => e = .returned (Rat.opOut (· * ·) n1 d1 n2 d2) ∧ Below w.heap.size w w' := Rat.refMul_any n1 d1 n2 d2 i1 i2 i3 i4 w
theorem rDiv (n1 d1 n2 d2 : Int) (i1 : inI n1) (i2 : inI d1) (i3 : inI n2) (i4 : inI d2) (w : World) :
    Calls Tryd.prog 27 #[.agg #[.int .i64 n1, .int .i64 d1], .agg #[.int .i64 n2, .int .i64 d2]] w fun e w' => e = .returned (Rat.divOut n1 d1 n2 d2) ∧ Below w.heap.size w w' := Rat.refDiv_any n1 d1 n2 d2 i1 i2 i3 i4 w
theorem rCompare (n1 d1 n2 d2 : Int) (i1 : inI n1) (i2 : inI d1) (i3 : inI n2) (i4 : inI d2) (w : World) :
    Calls Tryd.prog 29 #[.agg #[.int .i64 n1, .int .i64 d1], .agg #[.int .i64 n2, .int .i64 d2]] w fun e w' => e = .returned (.int .i64 (Rat.cmpOut n1 d1 n2 d2)) ∧ Below w.heap.size w w' := Rat.refCompare_any n1 d1 n2 d2 i1 i2 i3 i4 w
end Go.Proofs.YtbhlpcomgfmodaaDoor.Pro
