/- The contracts of the reference of layer 3: what is refused. -/
import Derived.Test.YtbiegbnncnjnmaaRatH
set_option linter.unusedVariables false
set_option linter.unusedSimpArgs false
namespace Go.Proofs.Ytbiegbnncnjnmaa.Rat
open Go.RowKit

set_option maxHeartbeats 1000000 in
theorem add_no (n1 d1 n2 d2 : Int) (i1 : inI n1) (i2 : inI d1) (i3 : inI n2) (i4 : inI d2) (h : ¬ (chk n1 d1 ∧ chk n2 d2)) (w : World) :
    Calls Try.prog 57 #[.agg #[.int .i64 n1, .int .i64 d1], .agg #[.int .i64 n2, .int .i64 d2]] w fun e w' => e = .returned (.tuple #[.agg #[.int .i64 0, .int .i64 0], .int .i64 1]) ∧ Below w.heap.size w w' := by
  by_cases hx : chk n1 d1
  · have KX := Lib.hid fun w => check_yes n1 d1 hx w
    have KY := Lib.hid fun w => check_no n2 d2 i3 i4 (fun hy => h ⟨hx, hy⟩) w
    go_enter Try.func57, Try.ntmps57
    go_wp2_with fail
    refine (KX.out _).mono ?_
    rintro e w1 ⟨rfl, hb1⟩
    have T1 := Lib.hid (Three.first hb1)
    obtain ⟨d0, d1'⟩ := cells2 T1.out.2.1
    clear hb1
    go_wp2_with fail
    refine (KY.out _).mono ?_
    rintro e w2 ⟨rfl, hb2⟩
    have T2 := Lib.hid (T1.out.step hb2)
    clear hb2 T1 d0 d1' KX KY
    obtain ⟨c0, c1⟩ := cells2 T2.out.2.2.1
    obtain ⟨f0, f1⟩ := frozen2 T2.out.2.2.1
    go_wp2
    refine bodyPost_ret (res_cell_tmp rfl _ _ (w.heap.size + 1 + 1) 23 _ (0, 0) _ rfl (set2 _ _ T2.out.2.2.1) Try.underlying23 rfl info23) rfl ?_
    exact ⟨rfl, T2.out.end2 _ _⟩
  · have KX := Lib.hid fun w => check_no n1 d1 i1 i2 hx w
    go_enter Try.func57, Try.ntmps57
    go_wp2_with fail
    refine (KX.out _).mono ?_
    rintro e w1 ⟨rfl, hb1⟩
    have T2 := Lib.hid (Three.first hb1)
    clear hb1 KX
    obtain ⟨c0, c1⟩ := cells2 T2.out.2.2.1
    obtain ⟨f0, f1⟩ := frozen2 T2.out.2.2.1
    go_wp2
    refine bodyPost_ret (res_cell_tmp rfl _ _ (w.heap.size + 1 + 1) 23 _ (0, 0) _ rfl (set2 _ _ T2.out.2.2.1) Try.underlying23 rfl info23) rfl ?_
    exact ⟨rfl, T2.out.end2 _ _⟩

set_option maxHeartbeats 1000000 in
theorem sub_no (n1 d1 n2 d2 : Int) (i1 : inI n1) (i2 : inI d1) (i3 : inI n2) (i4 : inI d2) (h : ¬ (chk n1 d1 ∧ chk n2 d2)) (w : World) :
    Calls Try.prog 35 #[.agg #[.int .i64 n1, .int .i64 d1], .agg #[.int .i64 n2, .int .i64 d2]] w fun e w' => e = .returned (.tuple #[.agg #[.int .i64 0, .int .i64 0], .int .i64 1]) ∧ Below w.heap.size w w' := by
  by_cases hx : chk n1 d1
  · have KX := Lib.hid fun w => check_yes n1 d1 hx w
    have KY := Lib.hid fun w => check_no n2 d2 i3 i4 (fun hy => h ⟨hx, hy⟩) w
    go_enter Try.func35, Try.ntmps35
    go_wp2_with fail
    refine (KX.out _).mono ?_
    rintro e w1 ⟨rfl, hb1⟩
    have T1 := Lib.hid (Three.first hb1)
    obtain ⟨d0, d1'⟩ := cells2 T1.out.2.1
    clear hb1
    go_wp2_with fail
    refine (KY.out _).mono ?_
    rintro e w2 ⟨rfl, hb2⟩
    have T2 := Lib.hid (T1.out.step hb2)
    clear hb2 T1 d0 d1' KX KY
    obtain ⟨c0, c1⟩ := cells2 T2.out.2.2.1
    obtain ⟨f0, f1⟩ := frozen2 T2.out.2.2.1
    go_wp2
    refine bodyPost_ret (res_cell_tmp rfl _ _ (w.heap.size + 1 + 1) 23 _ (0, 0) _ rfl (set2 _ _ T2.out.2.2.1) Try.underlying23 rfl info23) rfl ?_
    exact ⟨rfl, T2.out.end2 _ _⟩
  · have KX := Lib.hid fun w => check_no n1 d1 i1 i2 hx w
    go_enter Try.func35, Try.ntmps35
    go_wp2_with fail
    refine (KX.out _).mono ?_
    rintro e w1 ⟨rfl, hb1⟩
    have T2 := Lib.hid (Three.first hb1)
    clear hb1 KX
    obtain ⟨c0, c1⟩ := cells2 T2.out.2.2.1
    obtain ⟨f0, f1⟩ := frozen2 T2.out.2.2.1
    go_wp2
    refine bodyPost_ret (res_cell_tmp rfl _ _ (w.heap.size + 1 + 1) 23 _ (0, 0) _ rfl (set2 _ _ T2.out.2.2.1) Try.underlying23 rfl info23) rfl ?_
    exact ⟨rfl, T2.out.end2 _ _⟩

set_option maxHeartbeats 1000000 in
theorem mul_no (n1 d1 n2 d2 : Int) (i1 : inI n1) (i2 : inI d1) (i3 : inI n2) (i4 : inI d2) (h : ¬ (chk n1 d1 ∧ chk n2 d2)) (w : World) :
    Calls Try.prog 58 #[.agg #[.int .i64 n1, .int .i64 d1], .agg #[.int .i64 n2, .int .i64 d2]] w fun e w' => e = .returned (.tuple #[.agg #[.int .i64 0, .int .i64 0], .int .i64 1]) ∧ Below w.heap.size w w' := by
  by_cases hx : chk n1 d1
  · have KX := Lib.hid fun w => check_yes n1 d1 hx w
    have KY := Lib.hid fun w => check_no n2 d2 i3 i4 (fun hy => h ⟨hx, hy⟩) w
    go_enter Try.func58, Try.ntmps58
    go_wp2_with fail
    refine (KX.out _).mono ?_
    rintro e w1 ⟨rfl, hb1⟩
    have T1 := Lib.hid (Three.first hb1)
    obtain ⟨d0, d1'⟩ := cells2 T1.out.2.1
    clear hb1
    go_wp2_with fail
    refine (KY.out _).mono ?_
    rintro e w2 ⟨rfl, hb2⟩
    have T2 := Lib.hid (T1.out.step hb2)
    clear hb2 T1 d0 d1' KX KY
    obtain ⟨c0, c1⟩ := cells2 T2.out.2.2.1
    obtain ⟨f0, f1⟩ := frozen2 T2.out.2.2.1
    go_wp2
    refine bodyPost_ret (res_cell_tmp rfl _ _ (w.heap.size + 1 + 1) 23 _ (0, 0) _ rfl (set2 _ _ T2.out.2.2.1) Try.underlying23 rfl info23) rfl ?_
    exact ⟨rfl, T2.out.end2 _ _⟩
  · have KX := Lib.hid fun w => check_no n1 d1 i1 i2 hx w
    go_enter Try.func58, Try.ntmps58
    go_wp2_with fail
    refine (KX.out _).mono ?_
    rintro e w1 ⟨rfl, hb1⟩
    have T2 := Lib.hid (Three.first hb1)
    clear hb1 KX
    obtain ⟨c0, c1⟩ := cells2 T2.out.2.2.1
    obtain ⟨f0, f1⟩ := frozen2 T2.out.2.2.1
    go_wp2
    refine bodyPost_ret (res_cell_tmp rfl _ _ (w.heap.size + 1 + 1) 23 _ (0, 0) _ rfl (set2 _ _ T2.out.2.2.1) Try.underlying23 rfl info23) rfl ?_
    exact ⟨rfl, T2.out.end2 _ _⟩

set_option maxHeartbeats 1000000 in
theorem div_no (n1 d1 n2 d2 : Int) (i1 : inI n1) (i2 : inI d1) (i3 : inI n2) (i4 : inI d2) (h : ¬ (chk n1 d1 ∧ chk n2 d2)) (w : World) :
    Calls Try.prog 59 #[.agg #[.int .i64 n1, .int .i64 d1], .agg #[.int .i64 n2, .int .i64 d2]] w fun e w' => e = .returned (.tuple #[.agg #[.int .i64 0, .int .i64 0], .int .i64 1]) ∧ Below w.heap.size w w' := by
  by_cases hx : chk n1 d1
  · have KX := Lib.hid fun w => check_yes n1 d1 hx w
    have KY := Lib.hid fun w => check_no n2 d2 i3 i4 (fun hy => h ⟨hx, hy⟩) w
    go_enter Try.func59, Try.ntmps59
    go_wp2_with fail
    refine (KX.out _).mono ?_
    rintro e w1 ⟨rfl, hb1⟩
    have T1 := Lib.hid (Three.first hb1)
    obtain ⟨d0, d1'⟩ := cells2 T1.out.2.1
    clear hb1
    go_wp2_with fail
    refine (KY.out _).mono ?_
    rintro e w2 ⟨rfl, hb2⟩
    have T2 := Lib.hid (T1.out.step hb2)
    clear hb2 T1 d0 d1' KX KY
    obtain ⟨c0, c1⟩ := cells2 T2.out.2.2.1
    obtain ⟨f0, f1⟩ := frozen2 T2.out.2.2.1
    go_wp2
    refine bodyPost_ret (res_cell_tmp rfl _ _ (w.heap.size + 1 + 1) 23 _ (0, 0) _ rfl (set2 _ _ T2.out.2.2.1) Try.underlying23 rfl info23) rfl ?_
    exact ⟨rfl, T2.out.end2 _ _⟩
  · have KX := Lib.hid fun w => check_no n1 d1 i1 i2 hx w
    go_enter Try.func59, Try.ntmps59
    go_wp2_with fail
    refine (KX.out _).mono ?_
    rintro e w1 ⟨rfl, hb1⟩
    have T2 := Lib.hid (Three.first hb1)
    clear hb1 KX
    obtain ⟨c0, c1⟩ := cells2 T2.out.2.2.1
    obtain ⟨f0, f1⟩ := frozen2 T2.out.2.2.1
    go_wp2
    refine bodyPost_ret (res_cell_tmp rfl _ _ (w.heap.size + 1 + 1) 23 _ (0, 0) _ rfl (set2 _ _ T2.out.2.2.1) Try.underlying23 rfl info23) rfl ?_
    exact ⟨rfl, T2.out.end2 _ _⟩

end Go.Proofs.Ytbiegbnncnjnmaa.Rat
