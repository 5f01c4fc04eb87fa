/- What a call has laid, carried from call to call. -/
import Derived.Test.YtbiegbnncnjnmaaChecked
import Derived.Test.YtbiegbnncnjnmaaPWide
import Derived.WalkKit
import Derived.WalkSpells
import Derived.WalkLawsBesides
import Derived.Lib.Hide
import Derived.IntWalk
import Derived.KernelRfl
import Derived.BigRegion
import Derived.Outline
import Derived.Below
import Derived.Deep.RegionHeld3
import Derived.Deep.Cut
import Derived.Deep.CutRange
import Derived.Laws.Externs
set_option linter.unusedVariables false
set_option linter.unusedSimpArgs false
namespace Go.Proofs.Ytbiegbnncnjnmaa.Pro
open Go.RowKit

/-- The blocks of L hold what L says; all that was there stands as it stood. -/
def Has (w : World) (L : List (Nat × Array Value × TypeId)) (V : World) : Prop :=
  Below w.heap.size w V ∧ ∀ x ∈ L, V.heap[x.1]? = some (.cells x.2.1 x.2.2 (0, 0)) ∧ w.heap.size ≤ x.1
theorem Has.start (w : World) : Has w [] w := ⟨Below.refl _ _, fun _ h => by cases h⟩
theorem Has.lt {w V : World} {L : List (Nat × Array Value × TypeId)} (h : Has w L V) {x : Nat × Array Value × TypeId} (hx : x ∈ L) : x.1 < V.heap.size := (Array.getElem?_eq_some_iff.1 (h.2 x hx).1).1
theorem Has.alloc {w V : World} {L : List (Nat × Array Value × TypeId)} (h : Has w L V) (cs : Array Value) (t : TypeId) : Has w ((V.heap.size, cs, t) :: L) (V.alloc (.cells cs t)) := by
  refine ⟨h.1.alloc (h.1.size) _, fun x hx => ?_⟩
  rcases List.mem_cons.1 hx with rfl | hx
  · exact ⟨heap_alloc_new _ _, h.1.size⟩
  · exact ⟨(heap_alloc_old _ _ (h.lt hx)).trans (h.2 x hx).1, (h.2 x hx).2⟩
theorem Has.step {w V V2 : World} {L : List (Nat × Array Value × TypeId)} (h : Has w L V) (hb : Below V.heap.size V V2) : Has w L V2 :=
  ⟨h.1.trans (hb.mono h.1.size), fun x hx => ⟨(hb.block _ (h.lt hx)).trans (h.2 x hx).1, (h.2 x hx).2⟩⟩
theorem Has.drew {w V : World} {L : List (Nat × Array Value × TypeId)} (h : Has w L V) : Has w L V.drew := ⟨h.1.drew, h.2⟩
theorem Has.less {w V : World} {x : Nat × Array Value × TypeId} {L : List (Nat × Array Value × TypeId)} (h : Has w (x :: L) V) : Has w L V := ⟨h.1, fun y hy => h.2 y (List.mem_cons_of_mem _ hy)⟩
theorem Has.sub {w V : World} {L M : List (Nat × Array Value × TypeId)} (h : Has w L V) (hM : ∀ x ∈ M, x ∈ L) : Has w M V := ⟨h.1, fun y hy => h.2 y (hM y hy)⟩
theorem Has.set {w V : World} {L : List (Nat × Array Value × TypeId)} {b : Nat} {cs : Array Value} {t : TypeId} (h : Has w ((b, cs, t) :: L) V) (hL : ∀ x ∈ L, x.1 ≠ b) (j : Nat) (v : Value) :
    Has w ((b, cs.setIfInBounds j v, t) :: L) (V.setCell ⟨b, j, none⟩ v) := by
  have h0 := h.2 _ List.mem_cons_self
  refine ⟨h.1.setCell h0.2 _, fun x hx => ?_⟩
  rcases List.mem_cons.1 hx with rfl | hx
  · exact ⟨heap_setCell_same _ _ _ _ _ _ h0.1, h0.2⟩
  · refine ⟨(heap_setCell_other _ _ _ _ (hL x hx)).trans (h.2 x (List.mem_cons_of_mem _ hx)).1, (h.2 x (List.mem_cons_of_mem _ hx)).2⟩
theorem Has.row {w V : World} {L : List (Nat × Array Value × TypeId)} (h : Has w L V) {b : Nat} {cs : Array Value} {t : TypeId} (hx : (b, cs, t) ∈ L) : V.heap[b]? = some (.cells cs t (0, 0)) := (h.2 _ hx).1
theorem cells2 {w : World} {g : Nat} {x y : Value} {t : TypeId} (h : w.heap[g]? = some (.cells #[x, y] t (0, 0))) : w.cell? ⟨g, 0, none⟩ = some x ∧ w.cell? ⟨g, 1, none⟩ = some y :=
  ⟨(cell_of_row _ _ _ _ _ _ h).trans rfl, (cell_of_row _ _ _ _ _ _ h).trans rfl⟩
theorem cells1 {w : World} {g : Nat} {x : Value} {t : TypeId} (h : w.heap[g]? = some (.cells #[x] t (0, 0))) : w.cell? ⟨g, 0, none⟩ = some x := (cell_of_row _ _ _ _ _ _ h).trans rfl
theorem frozen2 {w : World} {g : Nat} {cs : Array Value} {t : TypeId} (h : w.heap[g]? = some (.cells cs t (0, 0))) : w.frozen? ⟨g, 0, none⟩ = false ∧ w.frozen? ⟨g, 1, none⟩ = false :=
  ⟨frozen_of_row _ _ _ _ _ h, frozen_of_row _ _ _ _ _ h⟩
theorem info46 : (Try.prog.info? 65).map (·.size) = some 2 := by kernel_rfl
theorem info23 : (Try.prog.info? 23).map (·.size) = some 2 := by kernel_rfl
def inI (n : Int) : Prop := -9223372036854775808 ≤ n ∧ n ≤ 9223372036854775807


theorem res_cell_tmp {fn : Func} {p u : Tmp} {ty : TypeId} {P : Program} (h : fn.results = #[.cell p ty, .tmp u]) (tmps : Array Value) (w : World) (g : Nat) (t : TypeId) (cs : Array Value) (fr : Nat × Nat) (d : TypeDesc)
    (hp : tmps.getD p undef = .pointer (some ⟨g, 0, none⟩)) (hg : w.heap[g]? = some (.cells cs t fr))
    (hu : P.underlying ty = some d) (hd : (match d with | .struct _ | .array _ _ => true | _ => false) = true) (hi : (P.info? ty).map (·.size) = some cs.size) :
    (results fn tmps).run P w = .ok (.tuple #[.agg cs, tmps.getD u undef]) w := by
  rw [results_cell_tmp h, hp]
  have hl := run_loadVar_row (P := P) w g t ty cs fr d hg hu (by cases d <;> simp_all) hi
  simp only [asAddr, Sem.run_pure, Result.andThen_ok, hl]
end Go.Proofs.Ytbiegbnncnjnmaa.Pro
