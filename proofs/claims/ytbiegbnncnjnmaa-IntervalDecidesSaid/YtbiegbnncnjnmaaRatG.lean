/- The contracts of the reference of layer 3: pair. -/
import Derived.Test.YtbiegbnncnjnmaaRatE
import Derived.Test.YtbiegbnncnjnmaaRatF
set_option linter.unusedVariables false
set_option linter.unusedSimpArgs false
namespace Go.Proofs.Ytbiegbnncnjnmaa.Rat
open Go.RowKit

theorem fits_yes (a : Int) (ha : a.natAbs ≤ 1152921504606846976) (w : World) :
    Calls Try.prog 95 #[wid a] w fun e w' => e = .returned (.tuple #[.int .i64 a, .bool true]) ∧ Below w.heap.size w w' := by
  have h := (fits_raw a.sign (a.natAbs / 1152921504606846976) (a.natAbs % 1152921504606846976) (lo_lt a) (by omega) w).1 (by omega) w
  have e : (if a.sign < 0 then -((a.natAbs / 1152921504606846976 * 1152921504606846976 + a.natAbs % 1152921504606846976 : Nat) : Int) else ((a.natAbs / 1152921504606846976 * 1152921504606846976 + a.natAbs % 1152921504606846976 : Nat) : Int)) = a := by
    rw [show a.natAbs / 1152921504606846976 * 1152921504606846976 + a.natAbs % 1152921504606846976 = a.natAbs by omega]
    rcases Int.lt_trichotomy a 0 with h1 | h1 | h1
    · rw [sign_neg' h1, if_pos (by omega)]; omega
    · subst h1; rfl
    · rw [sign_pos' h1, if_neg (by omega)]; omega
  rw [e] at h
  exact h
theorem fits_no (a : Int) (hf : far a) (ha : ¬ a.natAbs ≤ 1152921504606846976) (w : World) :
    Calls Try.prog 95 #[wid a] w fun e w' => e = .returned (.tuple #[.int .i64 0, .bool false]) ∧ Below w.heap.size w w' :=
  (fits_raw a.sign (a.natAbs / 1152921504606846976) (a.natAbs % 1152921504606846976) (lo_lt a) (far_hi hf) w).2 (by omega) w

/-- A fraction, or that it does not fit. -/
def pairOut (a b : Int) : Value := if a.natAbs ≤ 1152921504606846976 ∧ b.natAbs ≤ 1152921504606846976 then .tuple #[rat a b, .int .i64 0] else .tuple #[rat 0 0, .int .i64 14]
theorem info23 : (Try.prog.info? 23).map (·.size) = some 2 := by kernel_rfl

/-- Three blocks that the call has laid: two arguments and the result's. -/
def Three (w : World) (A B C : Obj) (w1 : World) : Prop :=
  w1.heap[w.heap.size]? = some A ∧ w1.heap[w.heap.size + 1]? = some B ∧ w1.heap[w.heap.size + 1 + 1]? = some C ∧ Below w.heap.size w w1
theorem Three.start (w : World) (A B C : Obj) : Three w A B C (((w.alloc A).alloc B).alloc C) := ⟨heap3_0 w A B C, heap3_1 w A B C, heap3_2 w A B C, below3 w A B C⟩
theorem Three.step {w w1 w2 : World} {A B C : Obj} (h : Three w A B C w1) (hb : Below w1.heap.size w1 w2) : Three w A B C w2 :=
  ⟨(hb.block _ (Array.getElem?_eq_some_iff.1 h.1).1).trans h.1, (hb.block _ (Array.getElem?_eq_some_iff.1 h.2.1).1).trans h.2.1, (hb.block _ (Array.getElem?_eq_some_iff.1 h.2.2.1).1).trans h.2.2.1, h.2.2.2.trans (hb.mono h.2.2.2.size)⟩
theorem Three.first {w w2 : World} {A B C : Obj} (hb : Below (((w.alloc A).alloc B).alloc C).heap.size (((w.alloc A).alloc B).alloc C) w2) : Three w A B C w2 := (Three.start w A B C).step hb
theorem cells3 {w : World} {g : Nat} {x y z : Value} {t : TypeId} (h : w.heap[g]? = some (.cells #[x, y, z] t (0, 0))) : w.cell? ⟨g, 0, none⟩ = some x ∧ w.cell? ⟨g, 1, none⟩ = some y ∧ w.cell? ⟨g, 2, none⟩ = some z :=
  ⟨(cell_of_row _ _ _ _ _ _ h).trans rfl, (cell_of_row _ _ _ _ _ _ h).trans rfl, (cell_of_row _ _ _ _ _ _ h).trans rfl⟩
theorem cells2 {w : World} {g : Nat} {x y : Value} {t : TypeId} (h : w.heap[g]? = some (.cells #[x, y] t (0, 0))) : w.cell? ⟨g, 0, none⟩ = some x ∧ w.cell? ⟨g, 1, none⟩ = some y :=
  ⟨(cell_of_row _ _ _ _ _ _ h).trans rfl, (cell_of_row _ _ _ _ _ _ h).trans rfl⟩
theorem frozen2 {w : World} {g : Nat} {cs : Array Value} {t : TypeId} (h : w.heap[g]? = some (.cells cs t (0, 0))) : w.frozen? ⟨g, 0, none⟩ = false ∧ w.frozen? ⟨g, 1, none⟩ = false :=
  ⟨frozen_of_row _ _ _ _ _ h, frozen_of_row _ _ _ _ _ h⟩
theorem set2 {w : World} {g : Nat} {a b : Value} {t : TypeId} (x y : Value) (h : w.heap[g]? = some (.cells #[a, b] t (0, 0))) :
    ((w.setCell ⟨g, 0, none⟩ x).setCell ⟨g, 1, none⟩ y).heap[g]? = some (.cells #[x, y] t (0, 0)) :=
  heap_setCell_same _ _ _ _ _ _ (heap_setCell_same _ _ _ _ _ _ h)
theorem Three.end2 {w w1 : World} {A B C : Obj} (h : Three w A B C w1) (x y : Value) : Below w.heap.size w ((w1.setCell ⟨w.heap.size + 1 + 1, 0, none⟩ x).setCell ⟨w.heap.size + 1 + 1, 1, none⟩ y) :=
  (h.2.2.2.setCell (by simp; omega) _).setCell (by simp; omega) _

set_option maxHeartbeats 1000000 in
theorem pair_any (a b : Int) (ha : far a) (hb : far b) (w : World) :
    Calls Try.prog 79 #[wid a, wid b] w fun e w' => e = .returned (pairOut a b) ∧ Below w.heap.size w w' := by
  have hwa : ∃ x y z : Int, wid a = .agg #[.int .i64 x, .int .i64 y, .int .i64 z] := ⟨_, _, _, rfl⟩
  have hwb : ∃ x y z : Int, wid b = .agg #[.int .i64 x, .int .i64 y, .int .i64 z] := ⟨_, _, _, rfl⟩
  unfold pairOut
  obtain ⟨x1, y1, z1, hwa⟩ := hwa
  obtain ⟨x2, y2, z2, hwb⟩ := hwb
  by_cases h1 : a.natAbs ≤ 1152921504606846976
  · have qa := fun w => fits_yes a h1 w
    by_cases h2 : b.natAbs ≤ 1152921504606846976
    · have qb := fun w => fits_yes b h2 w
      rw [if_pos ⟨h1, h2⟩]
      rw [hwa] at qa ⊢
      rw [hwb] at qb ⊢
      have QA := Lib.hid qa
      have QB := Lib.hid qb
      clear qa qb hwa hwb h1 h2 ha hb
      unfold rat
      go_enter Try.func79, Try.ntmps79
      go_wp2_with fail
      refine (QA.out _).mono ?_
      rintro e w1 ⟨rfl, hb1⟩
      have T1 := Lib.hid (Three.first hb1)
      obtain ⟨d0, d1, d2⟩ := cells3 T1.out.2.1
      clear hb1
      go_wp2_with fail
      refine (QB.out _).mono ?_
      rintro e w2 ⟨rfl, hb2⟩
      have T2 := Lib.hid (T1.out.step hb2)
      obtain ⟨c0, c1⟩ := cells2 T2.out.2.2.1
      obtain ⟨f0, f1⟩ := frozen2 T2.out.2.2.1
      clear hb2 T1 d0 d1 d2
      go_wp2
      refine bodyPost_ret (res_cell_tmp rfl _ _ (w.heap.size + 1 + 1) 23 _ (0, 0) _ rfl (set2 _ _ T2.out.2.2.1) Try.underlying23 rfl info23) rfl ?_
      exact ⟨rfl, T2.out.end2 _ _⟩
    · have qb := fun w => fits_no b hb h2 w
      rw [if_neg (fun h => h2 h.2)]
      rw [hwa] at qa ⊢
      rw [hwb] at qb ⊢
      have QA := Lib.hid qa
      have QB := Lib.hid qb
      clear qa qb hwa hwb h1 h2 ha hb
      unfold rat
      go_enter Try.func79, Try.ntmps79
      go_wp2_with fail
      refine (QA.out _).mono ?_
      rintro e w1 ⟨rfl, hb1⟩
      have T1 := Lib.hid (Three.first hb1)
      obtain ⟨d0, d1, d2⟩ := cells3 T1.out.2.1
      clear hb1
      go_wp2_with fail
      refine (QB.out _).mono ?_
      rintro e w2 ⟨rfl, hb2⟩
      have T2 := Lib.hid (T1.out.step hb2)
      obtain ⟨c0, c1⟩ := cells2 T2.out.2.2.1
      obtain ⟨f0, f1⟩ := frozen2 T2.out.2.2.1
      clear hb2 T1 d0 d1 d2
      go_wp2
      refine bodyPost_ret (res_cell_tmp rfl _ _ (w.heap.size + 1 + 1) 23 _ (0, 0) _ rfl (set2 _ _ T2.out.2.2.1) Try.underlying23 rfl info23) rfl ?_
      exact ⟨rfl, T2.out.end2 _ _⟩
  · have qa := fun w => fits_no a ha h1 w
    by_cases h2 : b.natAbs ≤ 1152921504606846976
    · have qb := fun w => fits_yes b h2 w
      rw [if_neg (fun h => h1 h.1)]
      rw [hwa] at qa ⊢
      rw [hwb] at qb ⊢
      have QA := Lib.hid qa
      have QB := Lib.hid qb
      clear qa qb hwa hwb h1 h2 ha hb
      unfold rat
      go_enter Try.func79, Try.ntmps79
      go_wp2_with fail
      refine (QA.out _).mono ?_
      rintro e w1 ⟨rfl, hb1⟩
      have T1 := Lib.hid (Three.first hb1)
      obtain ⟨d0, d1, d2⟩ := cells3 T1.out.2.1
      clear hb1
      go_wp2_with fail
      refine (QB.out _).mono ?_
      rintro e w2 ⟨rfl, hb2⟩
      have T2 := Lib.hid (T1.out.step hb2)
      obtain ⟨c0, c1⟩ := cells2 T2.out.2.2.1
      obtain ⟨f0, f1⟩ := frozen2 T2.out.2.2.1
      clear hb2 T1 d0 d1 d2
      go_wp2
      refine bodyPost_ret (res_cell_tmp rfl _ _ (w.heap.size + 1 + 1) 23 _ (0, 0) _ rfl (set2 _ _ T2.out.2.2.1) Try.underlying23 rfl info23) rfl ?_
      exact ⟨rfl, T2.out.end2 _ _⟩
    · have qb := fun w => fits_no b hb h2 w
      rw [if_neg (fun h => h1 h.1)]
      rw [hwa] at qa ⊢
      rw [hwb] at qb ⊢
      have QA := Lib.hid qa
      have QB := Lib.hid qb
      clear qa qb hwa hwb h1 h2 ha hb
      unfold rat
      go_enter Try.func79, Try.ntmps79
      go_wp2_with fail
      refine (QA.out _).mono ?_
      rintro e w1 ⟨rfl, hb1⟩
      have T1 := Lib.hid (Three.first hb1)
      obtain ⟨d0, d1, d2⟩ := cells3 T1.out.2.1
      clear hb1
      go_wp2_with fail
      refine (QB.out _).mono ?_
      rintro e w2 ⟨rfl, hb2⟩
      have T2 := Lib.hid (T1.out.step hb2)
      obtain ⟨c0, c1⟩ := cells2 T2.out.2.2.1
      obtain ⟨f0, f1⟩ := frozen2 T2.out.2.2.1
      clear hb2 T1 d0 d1 d2
      go_wp2
      refine bodyPost_ret (res_cell_tmp rfl _ _ (w.heap.size + 1 + 1) 23 _ (0, 0) _ rfl (set2 _ _ T2.out.2.2.1) Try.underlying23 rfl info23) rfl ?_
      exact ⟨rfl, T2.out.end2 _ _⟩
end Go.Proofs.Ytbiegbnncnjnmaa.Rat
