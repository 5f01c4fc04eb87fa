/- The contracts of the reference of layer 3: Compare, Floor. -/
import Derived.Test.YtbiegbnncnjnmaaRatJ
set_option linter.unusedVariables false
set_option linter.unusedSimpArgs false
namespace Go.Proofs.Ytbiegbnncnjnmaa.Rat
open Go.RowKit

/-- Two arguments' blocks. -/
def Pair (w : World) (x0 x1 y0 y1 : Value) (t : TypeId) (W : World) : Prop :=
  W.heap[w.heap.size]? = some (.cells #[x0, x1] t (0, 0)) ∧ W.heap[w.heap.size + 1]? = some (.cells #[y0, y1] t (0, 0)) ∧ Below w.heap.size w W
theorem Pair.start (w : World) (x0 x1 y0 y1 : Value) (t : TypeId) : Pair w x0 x1 y0 y1 t ((w.alloc (.cells #[x0, x1] t)).alloc (.cells #[y0, y1] t)) :=
  ⟨heap_alloc2_old w _ _, heap_alloc2_new w _ _, ((Below.refl _ _).alloc (Nat.le_refl _) _).alloc (by simp) _⟩
theorem Pair.step {w w1 w2 : World} {x0 x1 y0 y1 : Value} {t : TypeId} (h : Pair w x0 x1 y0 y1 t w1) (hb : Below w1.heap.size w1 w2) : Pair w x0 x1 y0 y1 t w2 :=
  ⟨(hb.block _ (Array.getElem?_eq_some_iff.1 h.1).1).trans h.1, (hb.block _ (Array.getElem?_eq_some_iff.1 h.2.1).1).trans h.2.1, h.2.2.trans (hb.mono h.2.2.size)⟩
theorem Pair.first {w w2 : World} {x0 x1 y0 y1 : Value} {t : TypeId} (hb : Below ((w.alloc (.cells #[x0, x1] t)).alloc (.cells #[y0, y1] t)).heap.size ((w.alloc (.cells #[x0, x1] t)).alloc (.cells #[y0, y1] t)) w2) : Pair w x0 x1 y0 y1 t w2 := (Pair.start w x0 x1 y0 y1 t).step hb
theorem Pair.drew {w W : World} {x0 x1 y0 y1 : Value} {t : TypeId} (h : Pair w x0 x1 y0 y1 t W) : Pair w x0 x1 y0 y1 t W.drew := ⟨h.1, h.2.1, h.2.2.drew⟩
theorem Pair.all {w W : World} {x0 x1 y0 y1 : Value} {t : TypeId} (h : Pair w x0 x1 y0 y1 t W) :
    W.cell? ⟨w.heap.size, 0, none⟩ = some x0 ∧ W.cell? ⟨w.heap.size, 1, none⟩ = some x1 ∧ W.cell? ⟨w.heap.size + 1, 0, none⟩ = some y0 ∧ W.cell? ⟨w.heap.size + 1, 1, none⟩ = some y1 ∧ Pair w x0 x1 y0 y1 t W :=
  ⟨(cells2 h.1).1, (cells2 h.1).2, (cells2 h.2.1).1, (cells2 h.2.1).2, h⟩
theorem Pair.of {w W : World} {x0 x1 y0 y1 : Value} {t : TypeId}
    (h : W.cell? ⟨w.heap.size, 0, none⟩ = some x0 ∧ W.cell? ⟨w.heap.size, 1, none⟩ = some x1 ∧ W.cell? ⟨w.heap.size + 1, 0, none⟩ = some y0 ∧ W.cell? ⟨w.heap.size + 1, 1, none⟩ = some y1 ∧ Pair w x0 x1 y0 y1 t W) : Pair w x0 x1 y0 y1 t W := h.2.2.2.2

set_option maxHeartbeats 2000000 in
theorem compare_yes (n1 n2 : Int) (D1 D2 : Nat) (hx : chk n1 D1) (hy : chk n2 D2) (w : World) :
    Calls Try.prog 39 #[.agg #[.int .i64 n1, .int .i64 D1], .agg #[.int .i64 n2, .int .i64 D2]] w fun e w' => e = .returned (.int .i64 (n1 * (D2 : Int) + -n2 * (D1 : Int)).sign) ∧ Below w.heap.size w w' := by
  have KX := Lib.hid fun w => check_yes n1 D1 hx w
  have KY := Lib.hid fun w => check_yes n2 D2 hy w
  obtain ⟨⟨hd1, hd1'⟩, ⟨hn1, hn1'⟩, _⟩ := hx
  obtain ⟨⟨hd2, hd2'⟩, ⟨hn2, hn2'⟩, _⟩ := hy
  have m1 : n1.natAbs ≤ 1152921504606846976 := by omega
  have m2 : (-n2).natAbs ≤ 1152921504606846976 := by omega
  have m3 : (D1 : Int).natAbs ≤ 1152921504606846976 := by omega
  have m4 : (D2 : Int).natAbs ≤ 1152921504606846976 := by omega
  have PL := Lib.hid fun w => plus_any (n1 * (D2 : Int)) (-n2 * (D1 : Int)) (far_mul m1 m4) (far_mul m2 m3) w
  have hs := (rfl : (n1 * (D2 : Int) + -n2 * (D1 : Int)).sign = (n1 * (D2 : Int) + -n2 * (D1 : Int)).sign)
  have hw : ∃ a b : Int, wid (n1 * (D2 : Int) + -n2 * (D1 : Int)) = .agg #[.int .i64 (n1 * (D2 : Int) + -n2 * (D1 : Int)).sign, .int .i64 a, .int .i64 b] := ⟨_, _, rfl⟩
  obtain ⟨ha, hb, hw⟩ := hw
  rw [hw] at PL
  generalize (n1 * (D2 : Int) + -n2 * (D1 : Int)).sign = sg at *
  clear hs hw
  go_enter Try.func39, Try.ntmps39
  go_wp2_with fail
  refine (KX.out _).mono ?_
  rintro e w1 ⟨rfl, hb1⟩
  have T1 := Lib.hid (Pair.first hb1)
  obtain ⟨d0, d1⟩ := cells2 T1.out.2.1
  clear hb1
  go_wp2_with fail
  refine (KY.out _).mono ?_
  rintro e w2 ⟨rfl, hb2⟩
  have h3 := (T1.out.step hb2).all
  clear hb2 T1 d0 d1 KX KY
  go_wp2
  obtain ⟨z2, hz2⟩ : ∃ z, z = -n2 := ⟨_, rfl⟩
  rw [← hz2] at m2 PL
  have v1 : IntKind.i64.wrap z2 = z2 := IntWalk.i64_in _ (by omega)
  have hz3 := hz2.symm
  clear hz2
  have hfl : ∀ W, (Instr.field 71 (.agg #[.int .i64 sg, .int .i64 ha, .int .i64 hb]) 0).run Try.prog W = .ok (.int .i64 sg) W := fun _ => by kernel_rfl
  go_region_held3 (fun W => W.cell? ⟨w.heap.size, 0, none⟩ = some (.int .i64 n1) ∧ W.cell? ⟨w.heap.size, 1, none⟩ = some (.int .i64 D1) ∧ W.cell? ⟨w.heap.size + 1, 0, none⟩ = some (.int .i64 n2) ∧ W.cell? ⟨w.heap.size + 1, 1, none⟩ = some (.int .i64 D2) ∧ Pair w (.int .i64 n1) (.int .i64 D1) (.int .i64 n2) (.int .i64 D2) 23 W)
    (first | exact (Pair.drew (Pair.of (by assumption))).all | exact (Pair.step (Pair.of (by assumption)) (by assumption)).all)
    (first | (go_at_call 68; refine (times_any _ _ (by assumption) (by assumption) _).mono ?_; rintro e w' ⟨rfl, hb⟩) | (go_at_call 67; refine (PL.out _).mono ?_; rintro e w' ⟨rfl, hb⟩; have HT := Lib.hid (Pair.step (Pair.of (by assumption)) hb)))
  go_wp2
  go_ret
  exact ⟨rfl, HT.out.2.2⟩
end Go.Proofs.Ytbiegbnncnjnmaa.Rat
