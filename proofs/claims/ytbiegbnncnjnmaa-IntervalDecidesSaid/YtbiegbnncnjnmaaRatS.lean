/- The contracts of the reference of layer 3: Sub; Add, Sub, Mul, Div, Compare by Lean's rationals. -/
import Derived.Test.YtbiegbnncnjnmaaRatK
set_option linter.unusedVariables false
set_option linter.unusedSimpArgs false
namespace Go.Proofs.Ytbiegbnncnjnmaa.Rat
open Go.RowKit

theorem add_out (n1 n2 : Int) (D1 D2 : Nat) (hx : chk n1 D1) (hy : chk n2 D2) (w : World) :
    Calls Try.prog 57 #[.agg #[.int .i64 n1, .int .i64 D1], .agg #[.int .i64 n2, .int .i64 D2]] w fun e w' => e = .returned (addOut n1 D1 n2 D2) ∧ Below w.heap.size w w' :=
  add_yes n1 n2 D1 D2 hx hy w _ _ rfl rfl
theorem mul_out (n1 n2 : Int) (D1 D2 : Nat) (hx : chk n1 D1) (hy : chk n2 D2) (w : World) :
    Calls Try.prog 58 #[.agg #[.int .i64 n1, .int .i64 D1], .agg #[.int .i64 n2, .int .i64 D2]] w fun e w' => e = .returned (mulOut n1 D1 n2 D2) ∧ Below w.heap.size w w' :=
  mul_yes n1 n2 D1 D2 hx hy w

set_option maxHeartbeats 1000000 in
theorem sub_out (n1 n2 : Int) (D1 D2 : Nat) (hx : chk n1 D1) (hy : chk n2 D2) (w : World) :
    Calls Try.prog 35 #[.agg #[.int .i64 n1, .int .i64 D1], .agg #[.int .i64 n2, .int .i64 D2]] w fun e w' => e = .returned (addOut n1 D1 (-n2) D2) ∧ Below w.heap.size w w' := by
  have KX := Lib.hid fun w => check_yes n1 D1 hx w
  have KY := Lib.hid fun w => check_yes n2 D2 hy w
  have q := fun w => add_out n1 (-n2) D1 D2 hx (chk_neg hy) w
  have hfm : ∃ px py pz : Int, addOut n1 D1 (-n2) D2 = .tuple #[.agg #[.int .i64 px, .int .i64 py], .int .i64 pz] := pairOut_form _ _
  obtain ⟨px, py, pz, hp⟩ := hfm
  rw [hp] at q ⊢
  have Q := Lib.hid q
  have b2 := hy.2.1
  have b3 := hy.1
  clear q hp
  go_enter Try.func35, Try.ntmps35
  go_wp2_with fail
  refine (KX.out _).mono ?_
  rintro e w1 ⟨rfl, hb1⟩
  have T1 := Lib.hid (Three.first hb1)
  obtain ⟨d0, d1⟩ := cells2 T1.out.2.1
  clear hb1
  go_wp2_with fail
  refine (KY.out _).mono ?_
  rintro e w2 ⟨rfl, hb2⟩
  have T2 := Lib.hid (T1.out.step hb2)
  clear hb2 T1 d0 d1 KX KY
  obtain ⟨a0, a1⟩ := cells2 T2.out.1
  obtain ⟨e0, e1⟩ := cells2 T2.out.2.1
  go_wp2_with fail
  refine (Q.out _).mono ?_
  rintro e w3 ⟨rfl, hb3⟩
  have T3 := Lib.hid (T2.out.step hb3)
  clear hb3 T2 a0 a1 e0 e1 Q
  obtain ⟨c0, c1⟩ := cells2 T3.out.2.2.1
  obtain ⟨f0, f1⟩ := frozen2 T3.out.2.2.1
  go_wp2
  refine bodyPost_ret (res_cell_tmp rfl _ _ (w.heap.size + 1 + 1) 23 _ (0, 0) _ rfl (set2 _ _ T3.out.2.2.1) Try.underlying23 rfl info23) rfl ?_
  exact ⟨rfl, T3.out.end2 _ _⟩

/-- What an operation of two fractions hands back. -/
def opOut (q : Rat → Rat → Rat) (n1 d1 n2 d2 : Int) : Value := if chk n1 d1 ∧ chk n2 d2 then outQ (q (toQ n1 d1.toNat) (toQ n2 d2.toNat)) else .tuple #[rat 0 0, .int .i64 1]
theorem opOut_yes {q : Rat → Rat → Rat} {n1 d1 n2 d2 : Int} (h : chk n1 d1 ∧ chk n2 d2) : opOut q n1 d1 n2 d2 = outQ (q (toQ n1 d1.toNat) (toQ n2 d2.toNat)) := if_pos h
theorem opOut_no {q : Rat → Rat → Rat} {n1 d1 n2 d2 : Int} (h : ¬ (chk n1 d1 ∧ chk n2 d2)) : opOut q n1 d1 n2 d2 = .tuple #[rat 0 0, .int .i64 1] := if_neg h
theorem refAdd_any (n1 d1 n2 d2 : Int) (i1 : inI n1) (i2 : inI d1) (i3 : inI n2) (i4 : inI d2) (w : World) :
    Calls Try.prog 57 #[rat n1 d1, rat n2 d2] w fun e w' => e = .returned (opOut (· + ·) n1 d1 n2 d2) ∧ Below w.heap.size w w' := by
  by_cases h : chk n1 d1 ∧ chk n2 d2
  · rw [opOut_yes h]
    obtain ⟨D1, rfl, hx⟩ := chk_nat h.1
    obtain ⟨D2, rfl, hy⟩ := chk_nat h.2
    have h2 := add_out n1 n2 D1 D2 hx hy w
    rw [addOut_Q hx hy] at h2
    exact h2
  · rw [opOut_no h]
    exact add_no n1 d1 n2 d2 i1 i2 i3 i4 h w
theorem refSub_any (n1 d1 n2 d2 : Int) (i1 : inI n1) (i2 : inI d1) (i3 : inI n2) (i4 : inI d2) (w : World) :
    Calls Try.prog 35 #[rat n1 d1, rat n2 d2] w fun e w' => e = .returned (opOut (· - ·) n1 d1 n2 d2) ∧ Below w.heap.size w w' := by
  by_cases h : chk n1 d1 ∧ chk n2 d2
  · rw [opOut_yes h]
    obtain ⟨D1, rfl, hx⟩ := chk_nat h.1
    obtain ⟨D2, rfl, hy⟩ := chk_nat h.2
    have h2 := sub_out n1 n2 D1 D2 hx hy w
    rw [subOut_Q hx hy] at h2
    exact h2
  · rw [opOut_no h]
    exact sub_no n1 d1 n2 d2 i1 i2 i3 i4 h w
theorem refMul_any (n1 d1 n2 d2 : Int) (i1 : inI n1) (i2 : inI d1) (i3 : inI n2) (i4 : inI d2) (w : World) :
    Calls Try.prog 58 #[rat n1 d1, rat n2 d2] w fun e w' => e = .returned (opOut (· * ·) n1 d1 n2 d2) ∧ Below w.heap.size w w' := by
  by_cases h : chk n1 d1 ∧ chk n2 d2
  · rw [opOut_yes h]
    obtain ⟨D1, rfl, hx⟩ := chk_nat h.1
    obtain ⟨D2, rfl, hy⟩ := chk_nat h.2
    have h2 := mul_out n1 n2 D1 D2 hx hy w
    rw [mulOut_Q hx hy] at h2
    exact h2
  · rw [opOut_no h]
    exact mul_no n1 d1 n2 d2 i1 i2 i3 i4 h w
/-- A quotient: by 0 it is ErrDivide. -/
def divOut (n1 d1 n2 d2 : Int) : Value := if chk n1 d1 ∧ chk n2 d2 ∧ n2 = 0 then .tuple #[rat 0 0, .int .i64 26] else opOut (· / ·) n1 d1 n2 d2
theorem refDiv_any (n1 d1 n2 d2 : Int) (i1 : inI n1) (i2 : inI d1) (i3 : inI n2) (i4 : inI d2) (w : World) :
    Calls Try.prog 59 #[rat n1 d1, rat n2 d2] w fun e w' => e = .returned (divOut n1 d1 n2 d2) ∧ Below w.heap.size w w' := by
  unfold divOut
  by_cases h : chk n1 d1 ∧ chk n2 d2
  · obtain ⟨D1, rfl, hx⟩ := chk_nat h.1
    obtain ⟨D2, rfl, hy⟩ := chk_nat h.2
    by_cases h0 : n2 = 0
    · subst h0
      rw [if_pos ⟨hx, hy, rfl⟩]
      exact div_zero n1 D1 D2 hx hy w
    · rw [if_neg (fun h => h0 h.2.2), opOut_yes h]
      have h2 := div_yes n1 n2 D1 D2 hx hy h0 w
      rw [divOut_Q hx hy h0] at h2
      exact h2
  · rw [if_neg (fun h' => h ⟨h'.1, h'.2.1⟩), opOut_no h]
    exact div_no n1 d1 n2 d2 i1 i2 i3 i4 h w
/-- How two fractions compare. -/
def cmpOut (n1 d1 n2 d2 : Int) : Int := if chk n1 d1 ∧ chk n2 d2 then (if toQ n1 d1.toNat < toQ n2 d2.toNat then -1 else if toQ n2 d2.toNat < toQ n1 d1.toNat then 1 else 0) else 0
theorem refCompare_any (n1 d1 n2 d2 : Int) (i1 : inI n1) (i2 : inI d1) (i3 : inI n2) (i4 : inI d2) (w : World) :
    Calls Try.prog 39 #[rat n1 d1, rat n2 d2] w fun e w' => e = .returned (.int .i64 (cmpOut n1 d1 n2 d2)) ∧ Below w.heap.size w w' := by
  unfold cmpOut
  by_cases h : chk n1 d1 ∧ chk n2 d2
  · rw [if_pos h]
    obtain ⟨D1, rfl, hx⟩ := chk_nat h.1
    obtain ⟨D2, rfl, hy⟩ := chk_nat h.2
    have h2 := compare_yes n1 n2 D1 D2 hx hy w
    rw [cmp_neg hx hy] at h2
    exact h2
  · rw [if_neg h]
    exact compare_no n1 d1 n2 d2 i1 i2 i3 i4 h w
end Go.Proofs.Ytbiegbnncnjnmaa.Rat
