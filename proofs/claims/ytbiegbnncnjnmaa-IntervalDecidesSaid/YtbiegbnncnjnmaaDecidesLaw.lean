/- IntervalDecides returns true for any two intervals and fractions, and leaves them as they are; conditions: none. The frame is the guide's; the walk is ours. -/
import Derived.Test.YtbiegbnncnjnmaaFr
import Derived.Test.YtbiegbnncnjnmaaMQy
namespace Go.Proofs.Ytbiegbnncnjnmaa.intervalDecides
open Go.ChangeShapes Go.WideShapes Go.ChangeAt Go.RowKit
set_option linter.unusedVariables false

set_option maxRecDepth 100000 in
theorem lifted (os : Os) (started : os.Started) (H : Type) (enc : TypeId × Value → H) :
    ReturnsInHanded {} Try.checked os 9 .any (Rows.intervalDecidesSpec.pre6 enc Try.prog Try.f9 Rows.intervalDecidesRow.domain false) (Rows.intervalDecidesSpec.post enc Try.prog Try.f9 false true false false) := by
  refine returnsInHanded_of_change (C := Try.checked) Fr.own started (by kernel_rfl) Try.func9
    (ChangeSpec.witness6 (enc := enc) (C := Try.checked) false ⟨#[], #[.agg #[.int .i64 0, .int .i64 0, .int .i64 0, .int .i64 0], .agg #[.int .i64 0, .int .i64 0, .int .i64 0, .int .i64 0], .agg #[.int .i64 0, .int .i64 0], .agg #[.int .i64 0, .int .i64 0]], []⟩ 8 (by kernel_rfl) (by kernel_rfl) (by kernel_rfl) (by kernel_rfl)) ?_
  intro W base args ds gs before hval0 hW hcnd _
  have hval : ∀ (j : Nat) t v, Try.f9.params[j]? = some t → args[j]? = some v → Value.okWide Try.prog W .any base t v := hval0
  have hW' := hW
  obtain ⟨p, q, hA0, hV, rfl, hfz, hnd⟩ := hW
  have hA : DataW.TrodAll enc Try.prog W 0 (fun _ => true) true Try.f9.params.toList args.toList ds p := hA0
  rw [Try.params9] at hA hval
  obtain ⟨v0, vs0, d0, ds0, p0, q0, hargs, rfl, rfl, h0, r0⟩ := trodAll_cons hA
  obtain ⟨v1, vs1, d1, ds1, p1, q1, rfl, rfl, rfl, h1, r1⟩ := trodAll_cons r0
  obtain ⟨v2, vs2, d2, ds2, p2, q2, rfl, rfl, rfl, h2, r2⟩ := trodAll_cons r1
  obtain ⟨v3, vs3, d3, ds3, p3, q3, rfl, rfl, rfl, h3, r3⟩ := trodAll_cons r2
  obtain ⟨rfl, rfl, rfl⟩ := trodAll_nil r3
  obtain rfl : args = #[v0, v1, v2, v3] := by cases args; simp_all
  obtain ⟨rfl, rfl⟩ := trodVars_none hV
  obtain ⟨a0, b0, c0, e0, rfl, rfl, rfl, wa0, wb0, wc0, we0⟩ := Fr.open_iv (hval 0 25 v0 rfl rfl) h0
  obtain ⟨a1, b1, c1, e1, rfl, rfl, rfl, wa1, wb1, wc1, we1⟩ := Fr.open_iv (hval 1 25 v1 rfl rfl) h1
  obtain ⟨a2, b2, rfl, rfl, rfl, w2, z2⟩ := Fr.open_rat (hval 2 23 v2 rfl rfl) h2
  obtain ⟨a3, b3, rfl, rfl, rfl, w3, z3⟩ := Fr.open_rat (hval 3 23 v3 rfl rfl) h3
  clear hA0 hval0
  simp only [List.append_nil] at hW'
  refine (Iv.decides_walk (a0, b0, c0, e0) (a1, b1, c1, e1) ⟨Fr.in64 wa0, Fr.in64 wb0, Fr.in64 wc0, Fr.in64 we0⟩ ⟨Fr.in64 wa1, Fr.in64 wb1, Fr.in64 wc1, Fr.in64 we1⟩ a2 b2 a3 b3 (Fr.in64 w2) (Fr.in64 z2) (Fr.in64 w3) (Fr.in64 z3) W).mono fun e W' ⟨he, hg⟩ => ?_
  subst he
  exact ⟨_, rfl, _, _, _, [], [], [], hW', trodAll_mk1 (shut_bool Try.underlying4 _), (trodAll_cons_mk (Fr.shut_iv wa0 wb0 wc0 we0) (trodAll_cons_mk (Fr.shut_iv wa1 wb1 wc1 we1) (trodAll_cons_mk (Fr.shut_rat w2 z2) (trodAll_cons_mk (Fr.shut_rat w3 z3) trodAll_mk0)))), rfl, hg.frame _, fun h => by cases h⟩

theorem over : Rows.intervalDecidesRow.holds Try.pinned (OpenSpec.ofChange Rows.intervalDecidesSpec) :=
  OpenClaim.holds_of_wide 9 Try.f9 rfl rfl rfl rfl rfl rfl rfl ⟨rfl, rfl, rfl, rfl, rfl⟩ rfl rfl rfl rfl rfl (by kernel_rfl) Try.func9 (by kernel_rfl)
    (of_decide_eq_true (by kernel_rfl)) (by unfold Func.isWrapper; first | (rw [if_pos (by decide +kernel)]; kernel_rfl) | (rw [if_neg (by decide +kernel)]; exact ⟨rfl, rfl⟩))
    (fun os started H enc _ => lifted os started H enc)

theorem proved : Rows.IntervalDecidesSaid := over
end Go.Proofs.Ytbiegbnncnjnmaa.intervalDecides

namespace Go.Proofs.Ytbiegbnncnjnmaa
/-- The statement. -/
theorem intervalDecides_holds : Rows.IntervalDecidesSaid := intervalDecides.proved
end Go.Proofs.Ytbiegbnncnjnmaa
#print axioms Go.Proofs.Ytbiegbnncnjnmaa.intervalDecides_holds
