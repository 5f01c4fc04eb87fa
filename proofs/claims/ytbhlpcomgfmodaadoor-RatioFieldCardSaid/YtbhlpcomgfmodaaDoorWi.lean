/- The walk of the law of layer 3: Field, with the two helpers of the law. -/
import Derived.Test.YtbhlpcomgfmodaaDoorWr
import Derived.Test.YtbhlpcomgfmodaaDoorPX
import Derived.Deep.DeepCutAuto
set_option linter.unusedVariables false
set_option linter.unusedSimpArgs false
namespace Go.Proofs.YtbhlpcomgfmodaaDoor.Pro
open Go.RowKit

/-- What a call lays that writes one old block, the error's. -/
structure Kq (w : World) (g : Nat) (v : Int) (L : List (Nat × Array Value × TypeId)) (V : World) : Prop where
  low : Below g w V
  rest : ∀ b, b < w.heap.size → b ≠ g → V.heap[b]? = w.heap[b]?
  cell : V.heap[g]? = some (.cells #[.int .i64 v] 24 (0, 0))
  lt : g < w.heap.size
  own : ∀ x ∈ L, V.heap[x.1]? = some (.cells x.2.1 x.2.2 (0, 0)) ∧ w.heap.size ≤ x.1
theorem Kq.start {w : World} {g : Nat} {v : Int} (h : w.heap[g]? = some (.cells #[.int .i64 v] 24 (0, 0))) : Kq w g v [] w :=
  ⟨Below.refl _ _, fun _ _ _ => rfl, h, (Array.getElem?_eq_some_iff.1 h).1, fun _ h => by cases h⟩
theorem Kq.size {w V : World} {g : Nat} {v : Int} {L : List (Nat × Array Value × TypeId)} (h : Kq w g v L V) : w.heap.size ≤ V.heap.size := h.low.size
theorem Kq.olt {w V : World} {g : Nat} {v : Int} {L : List (Nat × Array Value × TypeId)} (h : Kq w g v L V) {x : Nat × Array Value × TypeId} (hx : x ∈ L) : x.1 < V.heap.size := (Array.getElem?_eq_some_iff.1 (h.own x hx).1).1
theorem Kq.row {w V : World} {g : Nat} {v : Int} {L : List (Nat × Array Value × TypeId)} (h : Kq w g v L V) {b : Nat} {cs : Array Value} {t : TypeId} (hx : (b, cs, t) ∈ L) : V.heap[b]? = some (.cells cs t (0, 0)) := (h.own _ hx).1
theorem Kq.alloc {w V : World} {g : Nat} {v : Int} {L : List (Nat × Array Value × TypeId)} (h : Kq w g v L V) (cs : Array Value) (t : TypeId) : Kq w g v ((V.heap.size, cs, t) :: L) (V.alloc (.cells cs t)) := by
  have hs := h.size
  have hl := h.lt
  refine ⟨h.low.alloc (by omega) _, fun b hb hne => (heap_alloc_old _ _ (by omega)).trans (h.rest b hb hne), (heap_alloc_old _ _ (by omega)).trans h.cell, hl, fun x hx => ?_⟩
  rcases List.mem_cons.1 hx with rfl | hx
  · exact ⟨heap_alloc_new _ _, hs⟩
  · exact ⟨(heap_alloc_old _ _ (h.olt hx)).trans (h.own x hx).1, (h.own x hx).2⟩
theorem Kq.step {w V V2 : World} {g : Nat} {v : Int} {L : List (Nat × Array Value × TypeId)} (h : Kq w g v L V) (hb : Below V.heap.size V V2) : Kq w g v L V2 := by
  have hs := h.size
  have hl := h.lt
  exact ⟨h.low.trans (hb.mono (by omega)), fun b h1 h2 => (hb.block _ (by omega)).trans (h.rest b h1 h2), (hb.block _ (by omega)).trans h.cell, hl, fun x hx => ⟨(hb.block _ (h.olt hx)).trans (h.own x hx).1, (h.own x hx).2⟩⟩
theorem Kq.sub {w V : World} {g : Nat} {v : Int} {L M : List (Nat × Array Value × TypeId)} (h : Kq w g v L V) (hM : ∀ x ∈ M, x ∈ L) : Kq w g v M V := ⟨h.low, h.rest, h.cell, h.lt, fun y hy => h.own y (hM y hy)⟩
theorem Kq.setg {w V : World} {g : Nat} {v : Int} {L : List (Nat × Array Value × TypeId)} (h : Kq w g v L V) (v' : Int) : Kq w g v' L (V.setCell ⟨g, 0, none⟩ (.int .i64 v')) := by
  have hl := h.lt
  refine ⟨h.low.setCell (Nat.le_refl _) _, fun b h1 h2 => (heap_setCell_other _ _ _ _ h2).trans (h.rest b h1 h2), heap_setCell_same _ _ _ _ _ _ h.cell, hl, fun x hx => ?_⟩
  have h2 := (h.own x hx).2
  exact ⟨(heap_setCell_other _ _ _ _ (show x.1 ≠ g by omega)).trans (h.own x hx).1, h2⟩
theorem Kq.set {w V : World} {g : Nat} {v : Int} {L : List (Nat × Array Value × TypeId)} {b : Nat} {cs : Array Value} {t : TypeId} (h : Kq w g v ((b, cs, t) :: L) V) (hL : ∀ x ∈ L, x.1 ≠ b) (j : Nat) (u : Value) :
    Kq w g v ((b, cs.setIfInBounds j u, t) :: L) (V.setCell ⟨b, j, none⟩ u) := by
  have h0 := h.own _ List.mem_cons_self
  have hl := h.lt
  have hgb : g ≠ b := by have := h0.2; simp only at this; omega
  refine ⟨h.low.setCell (by have := h0.2; simp only at this ⊢; omega) _, fun k h1 h2 => (heap_setCell_other _ _ _ _ (show k ≠ b by have := h0.2; simp only at this; omega)).trans (h.rest k h1 h2),
    (heap_setCell_other _ _ _ _ hgb).trans h.cell, hl, fun x hx => ?_⟩
  rcases List.mem_cons.1 hx with rfl | hx
  · exact ⟨heap_setCell_same _ _ _ _ _ _ h0.1, h0.2⟩
  · exact ⟨(heap_setCell_other _ _ _ _ (hL x hx)).trans (h.own x (List.mem_cons_of_mem _ hx)).1, (h.own x (List.mem_cons_of_mem _ hx)).2⟩
/-- What the caller keeps over such a call. -/
theorem Has.kq {w V V2 : World} {g : Nat} {u v : Int} {L M : List (Nat × Array Value × TypeId)} (h : Has w ((g, #[.int .i64 u], 24) :: L) V) (hL : ∀ x ∈ L, x.1 ≠ g) (k : Kq V g v M V2) : Has w ((g, #[.int .i64 v], 24) :: L) V2 := by
  have h0 := h.2 _ List.mem_cons_self
  refine ⟨h.1.trans (k.low.mono h0.2), fun x hx => ?_⟩
  rcases List.mem_cons.1 hx with rfl | hx
  · exact ⟨k.cell, h0.2⟩
  · have hx' := List.mem_cons_of_mem (g, (#[.int .i64 u] : Array Value), (24 : TypeId)) hx
    exact ⟨(k.rest _ (h.lt hx') (hL x hx)).trans (h.2 x hx').1, (h.2 x hx').2⟩
theorem Kq.toK {w V V2 : World} {g : Nat} {u v : Int} {L M : List (Nat × Array Value × TypeId)} (h : Kq w g u L V) (k : Kq V g v M V2) : Kq w g v L V2 := by
  have hs := h.size
  have hl := h.lt
  exact ⟨h.low.trans k.low, fun b h1 h2 => (k.rest b (by omega) h2).trans (h.rest b h1 h2), k.cell, hl, fun x hx => ⟨(k.rest _ (h.olt hx) (by have := (h.own x hx).2; omega)).trans (h.own x hx).1, (h.own x hx).2⟩⟩

theorem kstart3 {w : World} {g : Nat} {v : Int} (hg : w.heap[g]? = some (.cells #[.int .i64 v] 24 (0, 0))) (a1 b1 a2 b2 : Int) :
    Kq w g v [(w.heap.size + 1 + 1, #[.int .i64 0, .int .i64 0], 23), (w.heap.size + 1, #[.int .i64 a2, .int .i64 b2], 23), (w.heap.size, #[.int .i64 a1, .int .i64 b1], 23)]
      (((w.alloc (.cells #[.int .i64 a1, .int .i64 b1] 23)).alloc (.cells #[.int .i64 a2, .int .i64 b2] 23)).alloc (.cells #[.int .i64 0, .int .i64 0] 23)) := by
  have h := (((Kq.start hg).alloc #[.int .i64 a1, .int .i64 b1] 23).alloc #[.int .i64 a2, .int .i64 b2] 23).alloc #[.int .i64 0, .int .i64 0] 23
  simp only [World.size_alloc] at h
  exact h
set_option maxHeartbeats 1000000 in
set_option maxRecDepth 100000 in
theorem result_err (p : FuncId) (n1 d1 n2 d2 ev : Int) (g : Nat) (hev : ¬ ev = 0) (w : World) (hg : w.heap[g]? = some (.cells #[.int .i64 ev] 24 (0, 0))) :
    Calls Tryd.prog 55 #[.func (.func p) #[] #[], .agg #[.int .i64 n1, .int .i64 d1], .agg #[.int .i64 n2, .int .i64 d2], .pointer (some ⟨g, 0, none⟩)] w fun e w' => e = .returned (.agg #[.int .i64 0, .int .i64 0]) ∧ Kq w g ev [] w' := by
  have T0 := Lib.hid (kstart3 hg n1 d1 n2 d2)
  clear hg
  go_enter Tryd.func55, Tryd.ntmps55
  go_upto_region 1 with fail
  generalize ((w.alloc (.cells #[.int .i64 n1, .int .i64 d1] 23)).alloc (.cells #[.int .i64 n2, .int .i64 d2] 23)).alloc (.cells #[.int .i64 0, .int .i64 0] 23) = W0 at *
  have e0 := cells1 T0.out.cell
  obtain ⟨r0, r1⟩ := cells2 (T0.out.row (b := w.heap.size + 1 + 1) (cs := #[.int .i64 0, .int .i64 0]) (t := 23) (by simp))
  obtain ⟨f0, f1⟩ := frozen2 (T0.out.row (b := w.heap.size + 1 + 1) (cs := #[.int .i64 0, .int .i64 0]) (t := 23) (by simp))
  have T1 := Lib.hid ((T0.out.set (b := w.heap.size + 1 + 1) (by simp; omega) 0 (.int .i64 0)).set (b := w.heap.size + 1 + 1) (by simp; omega) 1 (.int .i64 0))
  obtain ⟨s0, s1⟩ := cells2 (T1.out.row (b := w.heap.size + 1 + 1) (cs := #[.int .i64 0, .int .i64 0]) (t := 23) (by simp))
  go_wp2
  refine bodyPost_ret (results_cell_row rfl _ _ (w.heap.size + 1 + 1) 23 #[.int .i64 0, .int .i64 0] (0, 0) _ rfl (T1.out.row (by simp)) Tryd.underlying23 rfl info23) rfl ?_
  exact ⟨rfl, T1.out.sub (by simp)⟩
set_option maxHeartbeats 1000000 in
set_option maxRecDepth 100000 in
theorem result_ok (p : FuncId) (hp : p = 20 ∨ p = 24) (n1 d1 n2 d2 a b e' : Int) (g : Nat) (OP : Hid (∀ w : World, Calls Tryd.prog p #[.agg #[.int .i64 n1, .int .i64 d1], .agg #[.int .i64 n2, .int .i64 d2]] w fun e w' => e = .returned (.tuple #[.agg #[.int .i64 a, .int .i64 b], .int .i64 e']) ∧ Below w.heap.size w w'))
    (w : World) (hg : w.heap[g]? = some (.cells #[.int .i64 0] 24 (0, 0))) :
    Calls Tryd.prog 55 #[.func (.func p) #[] #[], .agg #[.int .i64 n1, .int .i64 d1], .agg #[.int .i64 n2, .int .i64 d2], .pointer (some ⟨g, 0, none⟩)] w fun e w' => e = .returned (.agg #[.int .i64 a, .int .i64 b]) ∧ Kq w g e' [] w' := by
  have T0 := Lib.hid (kstart3 hg n1 d1 n2 d2)
  clear hg
  rcases hp with rfl | rfl
  all_goals (
  go_enter Tryd.func55, Tryd.ntmps55
  go_upto_region 1 with fail
  generalize ((w.alloc (.cells #[.int .i64 n1, .int .i64 d1] 23)).alloc (.cells #[.int .i64 n2, .int .i64 d2] 23)).alloc (.cells #[.int .i64 0, .int .i64 0] 23) = W0 at *
  have e0 := cells1 T0.out.cell
  obtain ⟨u0, u1⟩ := cells2 (T0.out.row (b := w.heap.size) (cs := #[.int .i64 n1, .int .i64 d1]) (t := 23) (by simp))
  obtain ⟨v0, v1⟩ := cells2 (T0.out.row (b := w.heap.size + 1) (cs := #[.int .i64 n2, .int .i64 d2]) (t := 23) (by simp))
  go_wp2_with fail
  with_reducible refine (OP.out _).mono ?_
  rintro r w1 ⟨rfl, hb⟩
  have T1 := Lib.hid ((T0.out.step hb).alloc #[.int .i64 a, .int .i64 b] 23)
  have kz : w.heap.size + 1 + 1 < w1.heap.size := (T0.out.step hb).olt (x := (w.heap.size + 1 + 1, #[.int .i64 0, .int .i64 0], 23)) (by simp)
  clear hb T0 e0 u0 u1 v0 v1
  go_upto_region 4 with fail
  generalize w1.alloc (.cells #[.int .i64 a, .int .i64 b] 23) = W1 at *
  generalize w1.heap.size = z at *
  have e0 := cells1 T1.out.cell
  have fe : W1.frozen? ⟨g, 0, none⟩ = false := frozen_of_row _ _ _ _ _ T1.out.cell
  have T2 := Lib.hid (T1.out.setg e')
  clear T1
  go_upto_region 5 with fail
  generalize W1.setCell ⟨g, 0, none⟩ (.int .i64 e') = W2 at *
  obtain ⟨z0, z1⟩ := cells2 (T2.out.row (b := z) (cs := #[.int .i64 a, .int .i64 b]) (t := 23) (by simp))
  obtain ⟨r0, r1⟩ := cells2 (T2.out.row (b := w.heap.size + 1 + 1) (cs := #[.int .i64 0, .int .i64 0]) (t := 23) (by simp))
  obtain ⟨f0, f1⟩ := frozen2 (T2.out.row (b := w.heap.size + 1 + 1) (cs := #[.int .i64 0, .int .i64 0]) (t := 23) (by simp))
  have T3 := Lib.hid (((T2.out.sub (M := [(w.heap.size + 1 + 1, #[.int .i64 0, .int .i64 0], 23)]) (by simp)).set (b := w.heap.size + 1 + 1) (by simp) 0 (.int .i64 a)).set (b := w.heap.size + 1 + 1) (by simp) 1 (.int .i64 b))
  obtain ⟨s0, s1⟩ := cells2 (T3.out.row (b := w.heap.size + 1 + 1) (cs := #[.int .i64 a, .int .i64 b]) (t := 23) (by simp))
  go_wp2
  refine bodyPost_ret (results_cell_row rfl _ _ (w.heap.size + 1 + 1) 23 #[.int .i64 a, .int .i64 b] (0, 0) _ rfl (T3.out.row (by simp)) Tryd.underlying23 rfl info23) rfl ?_
  exact ⟨rfl, T3.out.sub (by simp)⟩)
set_option maxHeartbeats 1000000 in
set_option maxRecDepth 100000 in
theorem sum_raw (n1 d1 n2 d2 a b ev e' : Int) (g : Nat)
    (RS : Hid (∀ w : World, w.heap[g]? = some (.cells #[.int .i64 ev] 24 (0, 0)) → Calls Tryd.prog 55 #[.func (.func 20) #[] #[], .agg #[.int .i64 n1, .int .i64 d1], .agg #[.int .i64 n2, .int .i64 d2], .pointer (some ⟨g, 0, none⟩)] w fun e w' => e = .returned (.agg #[.int .i64 a, .int .i64 b]) ∧ Kq w g e' [] w'))
    (w : World) (hg : w.heap[g]? = some (.cells #[.int .i64 ev] 24 (0, 0))) :
    Calls Tryd.prog 32 #[.agg #[.int .i64 n1, .int .i64 d1], .agg #[.int .i64 n2, .int .i64 d2], .pointer (some ⟨g, 0, none⟩)] w fun e w' => e = .returned (.agg #[.int .i64 a, .int .i64 b]) ∧ Kq w g e' [] w' := by
  have T0 := Lib.hid (kstart3 hg n1 d1 n2 d2)
  clear hg
  go_enter Tryd.func32, Tryd.ntmps32
  go_upto_region 1 with fail
  generalize ((w.alloc (.cells #[.int .i64 n1, .int .i64 d1] 23)).alloc (.cells #[.int .i64 n2, .int .i64 d2] 23)).alloc (.cells #[.int .i64 0, .int .i64 0] 23) = W0 at *
  obtain ⟨u0, u1⟩ := cells2 (T0.out.row (b := w.heap.size) (cs := #[.int .i64 n1, .int .i64 d1]) (t := 23) (by simp))
  obtain ⟨v0, v1⟩ := cells2 (T0.out.row (b := w.heap.size + 1) (cs := #[.int .i64 n2, .int .i64 d2]) (t := 23) (by simp))
  go_wp2_with fail
  with_reducible refine (RS.out _ T0.out.cell).mono ?_
  rintro r w1 ⟨rfl, hb⟩
  have T1 := Lib.hid (T0.out.toK hb)
  clear hb T0 u0 u1 v0 v1
  obtain ⟨r0, r1⟩ := cells2 (T1.out.row (b := w.heap.size + 1 + 1) (cs := #[.int .i64 0, .int .i64 0]) (t := 23) (by simp))
  obtain ⟨f0, f1⟩ := frozen2 (T1.out.row (b := w.heap.size + 1 + 1) (cs := #[.int .i64 0, .int .i64 0]) (t := 23) (by simp))
  have T3 := Lib.hid (((T1.out.sub (M := [(w.heap.size + 1 + 1, #[.int .i64 0, .int .i64 0], 23)]) (by simp)).set (b := w.heap.size + 1 + 1) (by simp) 0 (.int .i64 a)).set (b := w.heap.size + 1 + 1) (by simp) 1 (.int .i64 b))
  go_wp2
  refine bodyPost_ret (results_cell_row rfl _ _ (w.heap.size + 1 + 1) 23 #[.int .i64 a, .int .i64 b] (0, 0) _ rfl (T3.out.row (by simp)) Tryd.underlying23 rfl info23) rfl ?_
  exact ⟨rfl, T3.out.sub (by simp)⟩
set_option maxHeartbeats 1000000 in
set_option maxRecDepth 100000 in
theorem product_raw (n1 d1 n2 d2 a b ev e' : Int) (g : Nat)
    (RS : Hid (∀ w : World, w.heap[g]? = some (.cells #[.int .i64 ev] 24 (0, 0)) → Calls Tryd.prog 55 #[.func (.func 24) #[] #[], .agg #[.int .i64 n1, .int .i64 d1], .agg #[.int .i64 n2, .int .i64 d2], .pointer (some ⟨g, 0, none⟩)] w fun e w' => e = .returned (.agg #[.int .i64 a, .int .i64 b]) ∧ Kq w g e' [] w'))
    (w : World) (hg : w.heap[g]? = some (.cells #[.int .i64 ev] 24 (0, 0))) :
    Calls Tryd.prog 33 #[.agg #[.int .i64 n1, .int .i64 d1], .agg #[.int .i64 n2, .int .i64 d2], .pointer (some ⟨g, 0, none⟩)] w fun e w' => e = .returned (.agg #[.int .i64 a, .int .i64 b]) ∧ Kq w g e' [] w' := by
  have T0 := Lib.hid (kstart3 hg n1 d1 n2 d2)
  clear hg
  go_enter Tryd.func33, Tryd.ntmps33
  go_upto_region 1 with fail
  generalize ((w.alloc (.cells #[.int .i64 n1, .int .i64 d1] 23)).alloc (.cells #[.int .i64 n2, .int .i64 d2] 23)).alloc (.cells #[.int .i64 0, .int .i64 0] 23) = W0 at *
  obtain ⟨u0, u1⟩ := cells2 (T0.out.row (b := w.heap.size) (cs := #[.int .i64 n1, .int .i64 d1]) (t := 23) (by simp))
  obtain ⟨v0, v1⟩ := cells2 (T0.out.row (b := w.heap.size + 1) (cs := #[.int .i64 n2, .int .i64 d2]) (t := 23) (by simp))
  go_wp2_with fail
  with_reducible refine (RS.out _ T0.out.cell).mono ?_
  rintro r w1 ⟨rfl, hb⟩
  have T1 := Lib.hid (T0.out.toK hb)
  clear hb T0 u0 u1 v0 v1
  obtain ⟨r0, r1⟩ := cells2 (T1.out.row (b := w.heap.size + 1 + 1) (cs := #[.int .i64 0, .int .i64 0]) (t := 23) (by simp))
  obtain ⟨f0, f1⟩ := frozen2 (T1.out.row (b := w.heap.size + 1 + 1) (cs := #[.int .i64 0, .int .i64 0]) (t := 23) (by simp))
  have T3 := Lib.hid (((T1.out.sub (M := [(w.heap.size + 1 + 1, #[.int .i64 0, .int .i64 0], 23)]) (by simp)).set (b := w.heap.size + 1 + 1) (by simp) 0 (.int .i64 a)).set (b := w.heap.size + 1 + 1) (by simp) 1 (.int .i64 b))
  go_wp2
  refine bodyPost_ret (results_cell_row rfl _ _ (w.heap.size + 1 + 1) 23 #[.int .i64 a, .int .i64 b] (0, 0) _ rfl (T3.out.row (by simp)) Tryd.underlying23 rfl info23) rfl ?_
  exact ⟨rfl, T3.out.sub (by simp)⟩
/-- What the two helpers answer: the operation's result, unless there has been an error. -/
def stepO (o : Int × Int × Int) (ev : Int) : Int × Int × Int := if ev = 0 then o else (0, 0, ev)
theorem hsum_any (n1 d1 n2 d2 a b e' ev : Int) (g : Nat) (OP : ∀ w : World, Calls Tryd.prog 20 #[.agg #[.int .i64 n1, .int .i64 d1], .agg #[.int .i64 n2, .int .i64 d2]] w fun e w' => e = .returned (.tuple #[.agg #[.int .i64 a, .int .i64 b], .int .i64 e']) ∧ Below w.heap.size w w')
    (w : World) (hg : w.heap[g]? = some (.cells #[.int .i64 ev] 24 (0, 0))) :
    Calls Tryd.prog 32 #[.agg #[.int .i64 n1, .int .i64 d1], .agg #[.int .i64 n2, .int .i64 d2], .pointer (some ⟨g, 0, none⟩)] w fun e w' => e = .returned (.agg #[.int .i64 (stepO (a, b, e') ev).1, .int .i64 (stepO (a, b, e') ev).2.1]) ∧ Kq w g (stepO (a, b, e') ev).2.2 [] w' := by
  by_cases h : ev = 0
  · subst h
    exact sum_raw n1 d1 n2 d2 a b 0 e' g (Lib.hid fun w hw => result_ok 20 (.inl rfl) n1 d1 n2 d2 a b e' g (Lib.hid OP) w hw) w hg
  · unfold stepO
    rw [if_neg h]
    exact sum_raw n1 d1 n2 d2 0 0 ev ev g (Lib.hid fun w hw => result_err 20 n1 d1 n2 d2 ev g h w hw) w hg
theorem hproduct_any (n1 d1 n2 d2 a b e' ev : Int) (g : Nat) (OP : ∀ w : World, Calls Tryd.prog 24 #[.agg #[.int .i64 n1, .int .i64 d1], .agg #[.int .i64 n2, .int .i64 d2]] w fun e w' => e = .returned (.tuple #[.agg #[.int .i64 a, .int .i64 b], .int .i64 e']) ∧ Below w.heap.size w w')
    (w : World) (hg : w.heap[g]? = some (.cells #[.int .i64 ev] 24 (0, 0))) :
    Calls Tryd.prog 33 #[.agg #[.int .i64 n1, .int .i64 d1], .agg #[.int .i64 n2, .int .i64 d2], .pointer (some ⟨g, 0, none⟩)] w fun e w' => e = .returned (.agg #[.int .i64 (stepO (a, b, e') ev).1, .int .i64 (stepO (a, b, e') ev).2.1]) ∧ Kq w g (stepO (a, b, e') ev).2.2 [] w' := by
  by_cases h : ev = 0
  · subst h
    exact product_raw n1 d1 n2 d2 a b 0 e' g (Lib.hid fun w hw => result_ok 24 (.inr rfl) n1 d1 n2 d2 a b e' g (Lib.hid OP) w hw) w hg
  · unfold stepO
    rw [if_neg h]
    exact product_raw n1 d1 n2 d2 0 0 ev ev g (Lib.hid fun w hw => result_err 24 n1 d1 n2 d2 ev g h w hw) w hg
/-- The law's blocks, with the error's block apart. -/
structure HE (w : World) (g : Nat) (v : Int) (L : List (Nat × Array Value × TypeId)) (V : World) : Prop where
  has : Has w L V
  cell : V.heap[g]? = some (.cells #[.int .i64 v] 24 (0, 0))
  ne : ∀ x ∈ L, x.1 ≠ g
  ge : w.heap.size ≤ g
structure HEk (w : World) (g : Nat) (v : Int) (L : List (Nat × Array Value × TypeId)) (V : World) : Prop where
  out : HE w g v L V
theorem HE.start {w V : World} {L : List (Nat × Array Value × TypeId)} (h : Has w L V) (v : Int) : HE w V.heap.size v L (V.alloc (.cells #[.int .i64 v] 24)) :=
  ⟨(h.alloc #[.int .i64 v] 24).less, heap_alloc_new _ _, fun x hx => by have := h.lt hx; omega, h.1.size⟩
theorem HE.glt {w V : World} {g : Nat} {v : Int} {L : List (Nat × Array Value × TypeId)} (h : HE w g v L V) : g < V.heap.size := (Array.getElem?_eq_some_iff.1 h.cell).1
theorem HE.drew {w V : World} {g : Nat} {v : Int} {L : List (Nat × Array Value × TypeId)} (h : HE w g v L V) : HE w g v L V.drew := ⟨h.has.drew, h.cell, h.ne, h.ge⟩
theorem HE.alloc {w V : World} {g : Nat} {v : Int} {L : List (Nat × Array Value × TypeId)} {cs : Array Value} {t : TypeId} (h : HE w g v L V) : HE w g v ((V.heap.size, cs, t) :: L) (V.alloc (.cells cs t)) :=
  ⟨h.has.alloc cs t, (heap_alloc_old _ _ h.glt).trans h.cell, fun x hx => by
    rcases List.mem_cons.1 hx with rfl | hx
    · have := h.glt; simp only; omega
    · exact h.ne x hx, h.ge⟩
theorem HE.kq {w V V2 : World} {g : Nat} {v v' : Int} {L M : List (Nat × Array Value × TypeId)} (h : HE w g v L V) (k : Kq V g v' M V2) : HE w g v' L V2 :=
  ⟨⟨h.has.1.trans (k.low.mono h.ge), fun x hx => ⟨(k.rest _ (h.has.lt hx) (h.ne x hx)).trans (h.has.2 x hx).1, (h.has.2 x hx).2⟩⟩, k.cell, h.ne, h.ge⟩
theorem HE.step {w V V2 : World} {g : Nat} {v : Int} {L : List (Nat × Array Value × TypeId)} (h : HE w g v L V) (hb : Below V.heap.size V V2) : HE w g v L V2 := ⟨h.has.step hb, (hb.block _ h.glt).trans h.cell, h.ne, h.ge⟩
theorem HE.setg {w V : World} {g : Nat} {v : Int} {L : List (Nat × Array Value × TypeId)} (h : HE w g v L V) (v' : Int) : HE w g v' L (V.setCell ⟨g, 0, none⟩ (.int .i64 v')) :=
  ⟨⟨h.has.1.setCell h.ge _, fun x hx => ⟨(heap_setCell_other _ _ _ _ (h.ne x hx)).trans (h.has.2 x hx).1, (h.has.2 x hx).2⟩⟩, heap_setCell_same _ _ _ _ _ _ h.cell, h.ne, h.ge⟩
theorem HE.put {w V : World} {g b : Nat} {v : Int} {x1 x2 a1 a2 : Value} {M : List (Nat × Array Value × TypeId)} (h : HE w g v ((b, #[x1, x2], 23) :: M) V) (hM : ∀ x ∈ M, x.1 ≠ b) :
    HE w g v ((b, #[a1, a2], 23) :: M) ((V.setCell ⟨b, 0, none⟩ a1).setCell ⟨b, 1, none⟩ a2) := by
  have hb : g ≠ b := fun e => h.ne _ List.mem_cons_self e.symm
  refine ⟨(h.has.set hM 0 a1).set hM 1 a2, (heap_setCell_other _ _ _ _ hb).trans ((heap_setCell_other _ _ _ _ hb).trans h.cell), fun x hx => ?_, h.ge⟩
  rcases List.mem_cons.1 hx with rfl | hx
  · exact fun e => hb e.symm
  · exact h.ne x (List.mem_cons_of_mem _ hx)
theorem HE.sub {w V : World} {g : Nat} {v : Int} {L M : List (Nat × Array Value × TypeId)} (h : HE w g v L V) (hM : ∀ x ∈ M, x ∈ L) : HE w g v M V := ⟨h.has.sub hM, h.cell, fun x hx => h.ne x (hM x hx), h.ge⟩
theorem HE.two {w V : World} {g b : Nat} {v a1 a2 : Int} {L : List (Nat × Array Value × TypeId)} (h : HE w g v L V) (m : (b, #[.int .i64 a1, .int .i64 a2], 23) ∈ L) :
    V.cell? ⟨b, 0, none⟩ = some (.int .i64 a1) ∧ V.cell? ⟨b, 1, none⟩ = some (.int .i64 a2) ∧ b < V.heap.size ∧ V.frozen? ⟨b, 0, none⟩ = false ∧ V.frozen? ⟨b, 1, none⟩ = false :=
  ⟨(cells2 (h.has.row m)).1, (cells2 (h.has.row m)).2, h.has.lt m, (frozen2 (h.has.row m)).1, (frozen2 (h.has.row m)).2⟩
/-- The three parameters' blocks. -/
def L3 (b : Nat) (n1 d1 n2 d2 n3 d3 : Int) : List (Nat × Array Value × TypeId) := [(b, #[.int .i64 n1, .int .i64 d1], 23), (b + 1, #[.int .i64 n2, .int .i64 d2], 23), (b + 1 + 1, #[.int .i64 n3, .int .i64 d3], 23)]
structure X3 (w : World) (g : Nat) (n1 d1 n2 d2 n3 d3 : Int) (V : World) : Prop where
  out : ∃ (v : Int) (M : List (Nat × Array Value × TypeId)), HE w g v M V ∧ ∀ x ∈ L3 w.heap.size n1 d1 n2 d2 n3 d3, x ∈ M
theorem X3.has {w V : World} {g : Nat} {n1 d1 n2 d2 n3 d3 : Int} (h : X3 w g n1 d1 n2 d2 n3 d3 V) : Has w (L3 w.heap.size n1 d1 n2 d2 n3 d3) V := by
  obtain ⟨v, M, h, hM⟩ := h.out
  exact h.has.sub hM
theorem X3.all {w V : World} {g : Nat} {n1 d1 n2 d2 n3 d3 : Int} (h : X3 w g n1 d1 n2 d2 n3 d3 V) : X3 w g n1 d1 n2 d2 n3 d3 V ∧
    V.cell? ⟨w.heap.size, 0, none⟩ = some (.int .i64 n1) ∧ V.cell? ⟨w.heap.size, 1, none⟩ = some (.int .i64 d1) ∧ V.cell? ⟨w.heap.size + 1, 0, none⟩ = some (.int .i64 n2) ∧ V.cell? ⟨w.heap.size + 1, 1, none⟩ = some (.int .i64 d2) ∧
      V.cell? ⟨w.heap.size + 1 + 1, 0, none⟩ = some (.int .i64 n3) ∧ V.cell? ⟨w.heap.size + 1 + 1, 1, none⟩ = some (.int .i64 d3) :=
  have h1 := cells2 (h.has.row (b := w.heap.size) (cs := #[.int .i64 n1, .int .i64 d1]) (t := 23) (by simp [L3]))
  have h2 := cells2 (h.has.row (b := w.heap.size + 1) (cs := #[.int .i64 n2, .int .i64 d2]) (t := 23) (by simp [L3]))
  have h3 := cells2 (h.has.row (b := w.heap.size + 1 + 1) (cs := #[.int .i64 n3, .int .i64 d3]) (t := 23) (by simp [L3]))
  ⟨h, h1.1, h1.2, h2.1, h2.2, h3.1, h3.2⟩
/-- The error's block and the target's apart from the others. -/
structure HB (w : World) (g : Nat) (v : Int) (b : Nat) (x1 x2 : Value) (M : List (Nat × Array Value × TypeId)) (V : World) : Prop where
  he : HE w g v ((b, #[x1, x2], 23) :: M) V
  ne : ∀ x ∈ M, x.1 ≠ b
structure HBk (w : World) (g : Nat) (v : Int) (b : Nat) (x1 x2 : Value) (M : List (Nat × Array Value × TypeId)) (V : World) : Prop where
  out : HB w g v b x1 x2 M V
theorem HB.drew {w V : World} {g b : Nat} {v : Int} {x1 x2 : Value} {M : List (Nat × Array Value × TypeId)} (h : HB w g v b x1 x2 M V) : HB w g v b x1 x2 M V.drew := ⟨h.he.drew, h.ne⟩
theorem HB.kq {w V V2 : World} {g b : Nat} {v v' : Int} {x1 x2 : Value} {M N : List (Nat × Array Value × TypeId)} (h : HB w g v b x1 x2 M V) (k : Kq V g v' N V2) : HB w g v' b x1 x2 M V2 := ⟨h.he.kq k, h.ne⟩
theorem HB.step {w V V2 : World} {g b : Nat} {v : Int} {x1 x2 : Value} {M : List (Nat × Array Value × TypeId)} (h : HB w g v b x1 x2 M V) (hb : Below V.heap.size V V2) : HB w g v b x1 x2 M V2 := ⟨h.he.step hb, h.ne⟩
theorem HB.new {w V : World} {g : Nat} {v : Int} {x1 x2 : Value} {M : List (Nat × Array Value × TypeId)} (h : HE w g v M V) : HB w g v V.heap.size x1 x2 M (V.alloc (.cells #[x1, x2] 23)) :=
  ⟨h.alloc, fun x hx => by have := h.has.lt hx; omega⟩
theorem HB.put {w V : World} {g b : Nat} {v : Int} {x1 x2 a1 a2 : Value} {M : List (Nat × Array Value × TypeId)} (h : HB w g v b x1 x2 M V) : HB w g v b a1 a2 M ((V.setCell ⟨b, 0, none⟩ a1).setCell ⟨b, 1, none⟩ a2) :=
  ⟨h.he.put h.ne, h.ne⟩
theorem HB.setg {w V : World} {g b : Nat} {v : Int} {x1 x2 : Value} {M : List (Nat × Array Value × TypeId)} (h : HB w g v b x1 x2 M V) (v' : Int) : HB w g v' b x1 x2 M (V.setCell ⟨g, 0, none⟩ (.int .i64 v')) := ⟨h.he.setg v', h.ne⟩
theorem HB.cells {w V : World} {g b : Nat} {v : Int} {x1 x2 : Value} {M : List (Nat × Array Value × TypeId)} (h : HB w g v b x1 x2 M V) :
    V.cell? ⟨b, 0, none⟩ = some x1 ∧ V.cell? ⟨b, 1, none⟩ = some x2 ∧ V.frozen? ⟨b, 0, none⟩ = false ∧ V.frozen? ⟨b, 1, none⟩ = false :=
  have r := h.he.has.row (b := b) (cs := #[x1, x2]) (t := 23) List.mem_cons_self
  ⟨(cells2 r).1, (cells2 r).2, (frozen2 r).1, (frozen2 r).2⟩
theorem HB.x3 {w V : World} {g b : Nat} {v n1 d1 n2 d2 n3 d3 : Int} {x1 x2 : Value} {M : List (Nat × Array Value × TypeId)} (h : HB w g v b x1 x2 M V) (hM : ∀ x ∈ L3 w.heap.size n1 d1 n2 d2 n3 d3, x ∈ M) : X3 w g n1 d1 n2 d2 n3 d3 V :=
  ⟨⟨_, _, h.he, fun x hx => List.mem_cons_of_mem _ (hM x hx)⟩⟩
theorem HE.x3 {w V : World} {g : Nat} {v n1 d1 n2 d2 n3 d3 : Int} {M : List (Nat × Array Value × TypeId)} (h : HE w g v M V) (hM : ∀ x ∈ L3 w.heap.size n1 d1 n2 d2 n3 d3, x ∈ M) : X3 w g n1 d1 n2 d2 n3 d3 V := ⟨⟨_, _, h, hM⟩⟩
theorem HE.ecell {w V : World} {g : Nat} {v : Int} {M : List (Nat × Array Value × TypeId)} (h : HE w g v M V) : V.cell? ⟨g, 0, none⟩ = some (.int .i64 v) ∧ V.frozen? ⟨g, 0, none⟩ = false := ⟨cells1 h.cell, frozen_of_row _ _ _ _ _ h.cell⟩
/-- Both targets. -/
structure HD (w : World) (g : Nat) (v : Int) (p : Nat) (a1 a2 : Value) (q : Nat) (b1 b2 : Value) (M : List (Nat × Array Value × TypeId)) (V : World) : Prop where
  he : HE w g v ((p, #[a1, a2], 23) :: (q, #[b1, b2], 23) :: M) V
  np : ∀ x ∈ M, x.1 ≠ p
  nq : ∀ x ∈ M, x.1 ≠ q
  pq : p ≠ q
theorem HD.left {w V : World} {g p q : Nat} {v : Int} {a1 a2 b1 b2 : Value} {M : List (Nat × Array Value × TypeId)} (h : HD w g v p a1 a2 q b1 b2 M V) : HB w g v p a1 a2 ((q, #[b1, b2], 23) :: M) V :=
  ⟨h.he, fun x hx => by
    rcases List.mem_cons.1 hx with rfl | hx
    · exact fun e => h.pq e.symm
    · exact h.np x hx⟩
theorem HD.right {w V : World} {g p q : Nat} {v : Int} {a1 a2 b1 b2 : Value} {M : List (Nat × Array Value × TypeId)} (h : HD w g v p a1 a2 q b1 b2 M V) : HB w g v q b1 b2 ((p, #[a1, a2], 23) :: M) V :=
  ⟨h.he.sub (fun x hx => by
    rcases List.mem_cons.1 hx with rfl | hx
    · exact List.mem_cons_of_mem _ List.mem_cons_self
    · rcases List.mem_cons.1 hx with rfl | hx
      · exact List.mem_cons_self
      · exact List.mem_cons_of_mem _ (List.mem_cons_of_mem _ hx)), fun x hx => by
    rcases List.mem_cons.1 hx with rfl | hx
    · exact h.pq
    · exact h.nq x hx⟩
theorem HB.two {w V : World} {g p q : Nat} {v : Int} {a1 a2 b1 b2 : Value} {M : List (Nat × Array Value × TypeId)} (h : HB w g v p a1 a2 ((q, #[b1, b2], 23) :: M) V) (hq : ∀ x ∈ M, x.1 ≠ q) : HD w g v p a1 a2 q b1 b2 M V :=
  ⟨h.he, fun x hx => h.ne x (List.mem_cons_of_mem _ hx), hq, fun e => h.ne _ List.mem_cons_self e.symm⟩
theorem HD.swap {w V : World} {g p q : Nat} {v : Int} {a1 a2 b1 b2 : Value} {M : List (Nat × Array Value × TypeId)} (h : HD w g v p a1 a2 q b1 b2 M V) : HD w g v q b1 b2 p a1 a2 M V := h.right.two h.np
theorem HD.setg {w V : World} {g p q : Nat} {v : Int} {a1 a2 b1 b2 : Value} {M : List (Nat × Array Value × TypeId)} (h : HD w g v p a1 a2 q b1 b2 M V) (v' : Int) : HD w g v' p a1 a2 q b1 b2 M (V.setCell ⟨g, 0, none⟩ (.int .i64 v')) := ⟨h.he.setg v', h.np, h.nq, h.pq⟩
theorem HD.drew {w V : World} {g p q : Nat} {v : Int} {a1 a2 b1 b2 : Value} {M : List (Nat × Array Value × TypeId)} (h : HD w g v p a1 a2 q b1 b2 M V) : HD w g v p a1 a2 q b1 b2 M V.drew := ⟨h.he.drew, h.np, h.nq, h.pq⟩
theorem HD.cells {w V : World} {g p q : Nat} {v : Int} {a1 a2 b1 b2 : Value} {M : List (Nat × Array Value × TypeId)} (h : HD w g v p a1 a2 q b1 b2 M V) :
    (V.cell? ⟨p, 0, none⟩ = some a1 ∧ V.cell? ⟨p, 1, none⟩ = some a2 ∧ V.frozen? ⟨p, 0, none⟩ = false ∧ V.frozen? ⟨p, 1, none⟩ = false) ∧
    (V.cell? ⟨q, 0, none⟩ = some b1 ∧ V.cell? ⟨q, 1, none⟩ = some b2 ∧ V.frozen? ⟨q, 0, none⟩ = false ∧ V.frozen? ⟨q, 1, none⟩ = false) ∧
      V.cell? ⟨g, 0, none⟩ = some (.int .i64 v) ∧ V.frozen? ⟨g, 0, none⟩ = false := ⟨h.left.cells, h.right.cells, h.he.ecell⟩
/-- What an operation's result is: a fraction and an error. -/
instance fitsDec (q : _root_.Rat) : Decidable (Rat.FitsQ q) := by unfold Rat.FitsQ; infer_instance
def opT (q : _root_.Rat → _root_.Rat → _root_.Rat) (n1 d1 n2 d2 : Int) : Int × Int × Int :=
  if Rat.chk n1 d1 ∧ Rat.chk n2 d2 then (if Rat.FitsQ (q (Rat.toQ n1 d1.toNat) (Rat.toQ n2 d2.toNat)) then ((q (Rat.toQ n1 d1.toNat) (Rat.toQ n2 d2.toNat)).num, ((q (Rat.toQ n1 d1.toNat) (Rat.toQ n2 d2.toNat)).den : Int), 0) else (0, 0, 14)) else (0, 0, 1)
theorem opT_out (q : _root_.Rat → _root_.Rat → _root_.Rat) (n1 d1 n2 d2 : Int) :
    Rat.opOut q n1 d1 n2 d2 = .tuple #[.agg #[.int .i64 (opT q n1 d1 n2 d2).1, .int .i64 (opT q n1 d1 n2 d2).2.1], .int .i64 (opT q n1 d1 n2 d2).2.2] := by
  unfold opT
  by_cases h : Rat.chk n1 d1 ∧ Rat.chk n2 d2
  · rw [if_pos h, Rat.opOut_yes h]
    by_cases hf : Rat.FitsQ (q (Rat.toQ n1 d1.toNat) (Rat.toQ n2 d2.toNat))
    · rw [if_pos hf, Rat.outQ_yes hf]
      rfl
    · rw [if_neg hf, Rat.outQ_no hf]
      rfl
  · rw [if_neg h, Rat.opOut_no h]
    rfl
theorem opT_in (q : _root_.Rat → _root_.Rat → _root_.Rat) (n1 d1 n2 d2 : Int) : inI (opT q n1 d1 n2 d2).1 ∧ inI (opT q n1 d1 n2 d2).2.1 := by
  have z : inI 0 ∧ inI 0 := ⟨⟨by decide, by decide⟩, ⟨by decide, by decide⟩⟩
  unfold opT
  by_cases h : Rat.chk n1 d1 ∧ Rat.chk n2 d2
  · rw [if_pos h]
    by_cases hf : Rat.FitsQ (q (Rat.toQ n1 d1.toNat) (Rat.toQ n2 d2.toNat))
    · rw [if_pos hf]
      have b := chk_bounds (Rat.valid_chk (Rat.valid_of_fits hf))
      exact ⟨b.2.2.2.1, b.2.2.2.2⟩
    · rw [if_neg hf]
      exact z
  · rw [if_neg h]
    exact z
/-- A valid fraction, and the number that it is. -/
def Val (n d : Int) (Q : _root_.Rat) : Prop := ∃ D : Nat, d = D ∧ Rat.chk n D ∧ Rat.toQ n D = Q
theorem Val.uniq {n d n' d' : Int} {Q : _root_.Rat} (h : Val n d Q) (h' : Val n' d' Q) : n = n' ∧ d = d' := by
  obtain ⟨D, rfl, c, e⟩ := h
  obtain ⟨D', rfl, c', e'⟩ := h'
  obtain ⟨x, y⟩ := Rat.toQ_eq c c' (e.trans e'.symm)
  exact ⟨x, by rw [y]⟩
theorem opT_eq {q : _root_.Rat → _root_.Rat → _root_.Rat} {n1 d1 n2 d2 : Int} {X Y : _root_.Rat} (hx : Val n1 d1 X) (hy : Val n2 d2 Y) : opT q n1 d1 n2 d2 = if Rat.FitsQ (q X Y) then ((q X Y).num, ((q X Y).den : Int), 0) else (0, 0, 14) := by
  obtain ⟨D, rfl, c, rfl⟩ := hx
  obtain ⟨D', rfl, c', rfl⟩ := hy
  unfold opT
  rw [if_pos ⟨c, c'⟩, Int.toNat_natCast, Int.toNat_natCast]
theorem opT_ok {q : _root_.Rat → _root_.Rat → _root_.Rat} {n1 d1 n2 d2 : Int} {X Y : _root_.Rat} (hx : Val n1 d1 X) (hy : Val n2 d2 Y) (h0 : (opT q n1 d1 n2 d2).2.2 = 0) : Val (opT q n1 d1 n2 d2).1 (opT q n1 d1 n2 d2).2.1 (q X Y) := by
  rw [opT_eq hx hy] at h0 ⊢
  by_cases hf : Rat.FitsQ (q X Y)
  · rw [if_pos hf]
    exact ⟨_, rfl, Rat.valid_chk (Rat.valid_of_fits hf), Rat.toQ_self _⟩
  · rw [if_neg hf] at h0
    cases h0
theorem opT_val {q : _root_.Rat → _root_.Rat → _root_.Rat} {n1 d1 n2 d2 r1 r2 : Int} {X Y R : _root_.Rat} (hx : Val n1 d1 X) (hy : Val n2 d2 Y) (hR : q X Y = R) (hr : Val r1 r2 R) : opT q n1 d1 n2 d2 = (r1, r2, 0) := by
  rw [opT_eq hx hy, hR]
  obtain ⟨D, rfl, c, rfl⟩ := hr
  have v := Rat.chk_valid c
  rw [if_pos v.fits, v.num, v.den]
theorem opT_comm {q : _root_.Rat → _root_.Rat → _root_.Rat} (hq : ∀ X Y, q X Y = q Y X) (n1 d1 n2 d2 : Int) : opT q n2 d2 n1 d1 = opT q n1 d1 n2 d2 := by
  unfold opT
  rw [hq (Rat.toQ n2 d2.toNat)]
  by_cases h : Rat.chk n1 d1 ∧ Rat.chk n2 d2
  · rw [if_pos h, if_pos h.symm]
  · rw [if_neg h, if_neg (fun x => h x.symm)]
/-- The same behind an error. -/
def stT (q : _root_.Rat → _root_.Rat → _root_.Rat) (n1 d1 n2 d2 ev : Int) : Int × Int × Int := stepO (opT q n1 d1 n2 d2) ev
theorem stT_in {q : _root_.Rat → _root_.Rat → _root_.Rat} {n1 d1 n2 d2 ev : Int} {p : Int × Int × Int} (hp : stT q n1 d1 n2 d2 ev = p) : inI p.1 ∧ inI p.2.1 := by
  have zz : inI 0 ∧ inI 0 := ⟨⟨by decide, by decide⟩, ⟨by decide, by decide⟩⟩
  rw [← hp]
  unfold stT stepO
  by_cases h : ev = 0
  · rw [if_pos h]
    exact opT_in q n1 d1 n2 d2
  · rw [if_neg h]
    exact zz
theorem stT_ok {q : _root_.Rat → _root_.Rat → _root_.Rat} {n1 d1 n2 d2 ev : Int} {X Y : _root_.Rat} {p : Int × Int × Int} (hp : stT q n1 d1 n2 d2 ev = p) (hx : ev = 0 → Val n1 d1 X) (hy : ev = 0 → Val n2 d2 Y) (h0 : p.2.2 = 0) : ev = 0 ∧ Val p.1 p.2.1 (q X Y) := by
  rw [← hp] at h0 ⊢
  unfold stT stepO at h0 ⊢
  by_cases h : ev = 0
  · rw [if_pos h] at h0 ⊢
    exact ⟨h, opT_ok (hx h) (hy h) h0⟩
  · rw [if_neg h] at h0
    exact absurd h0 h
theorem csum {n1 d1 n2 d2 ev : Int} (i1 : inI n1) (i2 : inI d1) (i3 : inI n2) (i4 : inI d2) {p : Int × Int × Int} (hp : stT (· + ·) n1 d1 n2 d2 ev = p) :
    Hid (∀ (g : Nat) (w : World), w.heap[g]? = some (.cells #[.int .i64 ev] 24 (0, 0)) → Calls Tryd.prog 32 #[.agg #[.int .i64 n1, .int .i64 d1], .agg #[.int .i64 n2, .int .i64 d2], .pointer (some ⟨g, 0, none⟩)] w fun e w' => e = .returned (.agg #[.int .i64 p.1, .int .i64 p.2.1]) ∧ Kq w g p.2.2 [] w') := by
  refine Lib.hid fun g w hg => ?_
  rw [← hp]
  refine hsum_any n1 d1 n2 d2 _ _ _ ev g (fun w => ?_) w hg
  have A := add_any n1 d1 n2 d2 i1 i2 i3 i4 w
  rw [opT_out] at A
  exact A
theorem cproduct {n1 d1 n2 d2 ev : Int} (i1 : inI n1) (i2 : inI d1) (i3 : inI n2) (i4 : inI d2) {p : Int × Int × Int} (hp : stT (· * ·) n1 d1 n2 d2 ev = p) :
    Hid (∀ (g : Nat) (w : World), w.heap[g]? = some (.cells #[.int .i64 ev] 24 (0, 0)) → Calls Tryd.prog 33 #[.agg #[.int .i64 n1, .int .i64 d1], .agg #[.int .i64 n2, .int .i64 d2], .pointer (some ⟨g, 0, none⟩)] w fun e w' => e = .returned (.agg #[.int .i64 p.1, .int .i64 p.2.1]) ∧ Kq w g p.2.2 [] w') := by
  refine Lib.hid fun g w hg => ?_
  rw [← hp]
  refine hproduct_any n1 d1 n2 d2 _ _ _ ev g (fun w => ?_) w hg
  have A := mul_any n1 d1 n2 d2 i1 i2 i3 i4 w
  rw [opT_out] at A
  exact A
theorem start3f (w : World) (a1 b1 a2 b2 a3 b3 : Int) :
    Has w [(w.heap.size, #[.int .i64 a1, .int .i64 b1], 23), (w.heap.size + 1, #[.int .i64 a2, .int .i64 b2], 23), (w.heap.size + 1 + 1, #[.int .i64 a3, .int .i64 b3], 23)]
      (((w.alloc (.cells #[.int .i64 a1, .int .i64 b1] 23)).alloc (.cells #[.int .i64 a2, .int .i64 b2] 23)).alloc (.cells #[.int .i64 a3, .int .i64 b3] 23)) := by
  have h := (((Has.start w).alloc #[.int .i64 a1, .int .i64 b1] 23).alloc #[.int .i64 a2, .int .i64 b2] 23).alloc #[.int .i64 a3, .int .i64 b3] 23
  simp only [World.size_alloc] at h
  exact h.sub (by simp)
set_option maxHeartbeats 4000000 in
set_option maxRecDepth 100000 in
/-- The law as far as the error's variable: what follows is an argument. -/
theorem flaw_a (n1 d1 n2 d2 n3 d3 a b e ma mb me l1 l2 l3 l4 l5 l6 p1 p2 p3 p4 p5 p6 q1 q2 q3 q4 r1 r2 r3 r4 r5 r6 s1 s10 s11 s12 s13 s2 s3 s4 s5 s6 s7 s8 s9 t1 t2 t3 t4 : Int)
    (h20 : s4 = 0 → l1 = r1 ∧ l2 = r2) (h25 : s8 = 0 → l3 = r3 ∧ l4 = r4) (h30 : s13 = 0 → l5 = r5 ∧ l6 = r6)
    (C1 : Hid (∀ (g : Nat) (w : World), w.heap[g]? = some (.cells #[.int .i64 0] 24 (0, 0)) → Calls Tryd.prog 32 #[.agg #[.int .i64 n1, .int .i64 d1], .agg #[.int .i64 n2, .int .i64 d2], .pointer (some ⟨g, 0, none⟩)] w fun e w' => e = .returned (.agg #[.int .i64 p1, .int .i64 p2]) ∧ Kq w g s1 [] w'))
    (C2 : Hid (∀ (g : Nat) (w : World), w.heap[g]? = some (.cells #[.int .i64 s1] 24 (0, 0)) → Calls Tryd.prog 32 #[.agg #[.int .i64 p1, .int .i64 p2], .agg #[.int .i64 n3, .int .i64 d3], .pointer (some ⟨g, 0, none⟩)] w fun e w' => e = .returned (.agg #[.int .i64 l1, .int .i64 l2]) ∧ Kq w g s2 [] w'))
    (C3 : Hid (∀ (g : Nat) (w : World), w.heap[g]? = some (.cells #[.int .i64 s2] 24 (0, 0)) → Calls Tryd.prog 32 #[.agg #[.int .i64 n2, .int .i64 d2], .agg #[.int .i64 n3, .int .i64 d3], .pointer (some ⟨g, 0, none⟩)] w fun e w' => e = .returned (.agg #[.int .i64 q1, .int .i64 q2]) ∧ Kq w g s3 [] w'))
    (C4 : Hid (∀ (g : Nat) (w : World), w.heap[g]? = some (.cells #[.int .i64 s3] 24 (0, 0)) → Calls Tryd.prog 32 #[.agg #[.int .i64 n1, .int .i64 d1], .agg #[.int .i64 q1, .int .i64 q2], .pointer (some ⟨g, 0, none⟩)] w fun e w' => e = .returned (.agg #[.int .i64 r1, .int .i64 r2]) ∧ Kq w g s4 [] w'))
    (C5 : Hid (∀ (g : Nat) (w : World), w.heap[g]? = some (.cells #[.int .i64 0] 24 (0, 0)) → Calls Tryd.prog 33 #[.agg #[.int .i64 n1, .int .i64 d1], .agg #[.int .i64 n2, .int .i64 d2], .pointer (some ⟨g, 0, none⟩)] w fun e w' => e = .returned (.agg #[.int .i64 p3, .int .i64 p4]) ∧ Kq w g s5 [] w'))
    (C6 : Hid (∀ (g : Nat) (w : World), w.heap[g]? = some (.cells #[.int .i64 s5] 24 (0, 0)) → Calls Tryd.prog 33 #[.agg #[.int .i64 p3, .int .i64 p4], .agg #[.int .i64 n3, .int .i64 d3], .pointer (some ⟨g, 0, none⟩)] w fun e w' => e = .returned (.agg #[.int .i64 l3, .int .i64 l4]) ∧ Kq w g s6 [] w'))
    (C7 : Hid (∀ (g : Nat) (w : World), w.heap[g]? = some (.cells #[.int .i64 s6] 24 (0, 0)) → Calls Tryd.prog 33 #[.agg #[.int .i64 n2, .int .i64 d2], .agg #[.int .i64 n3, .int .i64 d3], .pointer (some ⟨g, 0, none⟩)] w fun e w' => e = .returned (.agg #[.int .i64 q3, .int .i64 q4]) ∧ Kq w g s7 [] w'))
    (C8 : Hid (∀ (g : Nat) (w : World), w.heap[g]? = some (.cells #[.int .i64 s7] 24 (0, 0)) → Calls Tryd.prog 33 #[.agg #[.int .i64 n1, .int .i64 d1], .agg #[.int .i64 q3, .int .i64 q4], .pointer (some ⟨g, 0, none⟩)] w fun e w' => e = .returned (.agg #[.int .i64 r3, .int .i64 r4]) ∧ Kq w g s8 [] w'))
    (C9 : Hid (∀ (g : Nat) (w : World), w.heap[g]? = some (.cells #[.int .i64 0] 24 (0, 0)) → Calls Tryd.prog 32 #[.agg #[.int .i64 n2, .int .i64 d2], .agg #[.int .i64 n3, .int .i64 d3], .pointer (some ⟨g, 0, none⟩)] w fun e w' => e = .returned (.agg #[.int .i64 p5, .int .i64 p6]) ∧ Kq w g s9 [] w'))
    (C10 : Hid (∀ (g : Nat) (w : World), w.heap[g]? = some (.cells #[.int .i64 s9] 24 (0, 0)) → Calls Tryd.prog 33 #[.agg #[.int .i64 n1, .int .i64 d1], .agg #[.int .i64 p5, .int .i64 p6], .pointer (some ⟨g, 0, none⟩)] w fun e w' => e = .returned (.agg #[.int .i64 l5, .int .i64 l6]) ∧ Kq w g s10 [] w'))
    (C11 : Hid (∀ (g : Nat) (w : World), w.heap[g]? = some (.cells #[.int .i64 s10] 24 (0, 0)) → Calls Tryd.prog 33 #[.agg #[.int .i64 n1, .int .i64 d1], .agg #[.int .i64 n2, .int .i64 d2], .pointer (some ⟨g, 0, none⟩)] w fun e w' => e = .returned (.agg #[.int .i64 t1, .int .i64 t2]) ∧ Kq w g s11 [] w'))
    (C12 : Hid (∀ (g : Nat) (w : World), w.heap[g]? = some (.cells #[.int .i64 s11] 24 (0, 0)) → Calls Tryd.prog 33 #[.agg #[.int .i64 n1, .int .i64 d1], .agg #[.int .i64 n3, .int .i64 d3], .pointer (some ⟨g, 0, none⟩)] w fun e w' => e = .returned (.agg #[.int .i64 t3, .int .i64 t4]) ∧ Kq w g s12 [] w'))
    (C13 : Hid (∀ (g : Nat) (w : World), w.heap[g]? = some (.cells #[.int .i64 s12] 24 (0, 0)) → Calls Tryd.prog 32 #[.agg #[.int .i64 t1, .int .i64 t2], .agg #[.int .i64 t3, .int .i64 t4], .pointer (some ⟨g, 0, none⟩)] w fun e w' => e = .returned (.agg #[.int .i64 r5, .int .i64 r6]) ∧ Kq w g s13 [] w'))
    (K1 : Hid (∀ w : World, Calls Tryd.prog 14 #[.agg #[.int .i64 n1, .int .i64 d1]] w fun e w' => e = .returned (.int .i64 0) ∧ Below w.heap.size w w'))
    (K2 : Hid (∀ w : World, Calls Tryd.prog 14 #[.agg #[.int .i64 n2, .int .i64 d2]] w fun e w' => e = .returned (.int .i64 0) ∧ Below w.heap.size w w'))
    (K3 : Hid (∀ w : World, Calls Tryd.prog 14 #[.agg #[.int .i64 n3, .int .i64 d3]] w fun e w' => e = .returned (.int .i64 0) ∧ Below w.heap.size w w'))
    (AX : Hid (∀ w : World, Calls Tryd.prog 20 #[.agg #[.int .i64 n1, .int .i64 d1], .agg #[.int .i64 n2, .int .i64 d2]] w fun r w' => r = .returned (.tuple #[.agg #[.int .i64 a, .int .i64 b], .int .i64 e]) ∧ Below w.heap.size w w'))
    (AY : Hid (∀ w : World, Calls Tryd.prog 20 #[.agg #[.int .i64 n2, .int .i64 d2], .agg #[.int .i64 n1, .int .i64 d1]] w fun r w' => r = .returned (.tuple #[.agg #[.int .i64 a, .int .i64 b], .int .i64 e]) ∧ Below w.heap.size w w'))
    (MX : Hid (∀ w : World, Calls Tryd.prog 24 #[.agg #[.int .i64 n1, .int .i64 d1], .agg #[.int .i64 n2, .int .i64 d2]] w fun r w' => r = .returned (.tuple #[.agg #[.int .i64 ma, .int .i64 mb], .int .i64 me]) ∧ Below w.heap.size w w'))
    (MY : Hid (∀ w : World, Calls Tryd.prog 24 #[.agg #[.int .i64 n2, .int .i64 d2], .agg #[.int .i64 n1, .int .i64 d1]] w fun r w' => r = .returned (.tuple #[.agg #[.int .i64 ma, .int .i64 mb], .int .i64 me]) ∧ Below w.heap.size w w'))
    (SB : Hid (∀ w : World, e = 0 → Calls Tryd.prog 22 #[.agg #[.int .i64 a, .int .i64 b], .agg #[.int .i64 n2, .int .i64 d2]] w fun r w' => r = .returned (.tuple #[.agg #[.int .i64 n1, .int .i64 d1], .int .i64 0]) ∧ Below w.heap.size w w'))
    (DV : Hid (∀ w : World, me = 0 → ¬ n2 = 0 → Calls Tryd.prog 26 #[.agg #[.int .i64 ma, .int .i64 mb], .agg #[.int .i64 n2, .int .i64 d2]] w fun r w' => r = .returned (.tuple #[.agg #[.int .i64 n1, .int .i64 d1], .int .i64 0]) ∧ Below w.heap.size w w'))
    (w : World) (ht : T10 w) :
    Calls Tryd.prog 7 #[.agg #[.int .i64 n1, .int .i64 d1], .agg #[.int .i64 n2, .int .i64 d2], .agg #[.int .i64 n3, .int .i64 d3]] w fun e w' => e = .returned (.bool true) ∧ Below w.heap.size w w' := by
  have HT := Lib.hid ht
  have H20 := Lib.hid h20
  have H25 := Lib.hid h25
  have H30 := Lib.hid h30
  clear ht h20 h25 h30
  have T0 := Lib.hid (start3f w n1 d1 n2 d2 n3 d3)
  go_enter Tryd.func7, Tryd.ntmps7
  go_wp2_with fail
  with_reducible refine (K1.out _).mono ?_
  rintro r w1 ⟨rfl, hb⟩
  have T1 := Lib.hid (T0.out.step hb)
  clear hb T0 K1
  obtain ⟨v0, v1⟩ := cells2 (T1.out.row (b := w.heap.size + 1) (cs := #[.int .i64 n2, .int .i64 d2]) (t := 23) (by simp))
  go_wp2_with fail
  with_reducible refine (K2.out _).mono ?_
  rintro r w2 ⟨rfl, hb⟩
  have T2 := Lib.hid (T1.out.step hb)
  clear hb T1 K2 v0 v1
  obtain ⟨z0, z1⟩ := cells2 (T2.out.row (b := w.heap.size + 1 + 1) (cs := #[.int .i64 n3, .int .i64 d3]) (t := 23) (by simp))
  go_wp2_with fail
  with_reducible refine (K3.out _).mono ?_
  rintro r w3 ⟨rfl, hb⟩
  have T3 := Lib.hid (T2.out.step hb)
  clear hb T2 K3 z0 z1
  obtain ⟨u0, u1⟩ := cells2 (T3.out.row (b := w.heap.size) (cs := #[.int .i64 n1, .int .i64 d1]) (t := 23) (by simp))
  obtain ⟨v0, v1⟩ := cells2 (T3.out.row (b := w.heap.size + 1) (cs := #[.int .i64 n2, .int .i64 d2]) (t := 23) (by simp))
  go_wp2_with fail
  with_reducible refine (AX.out _).mono ?_
  rintro r vw0 ⟨rfl, hb⟩
  have Q0 := Lib.hid ((T3.out.step hb).alloc #[.int .i64 a, .int .i64 b] 23)
  clear hb T3 AX u0 u1 v0 v1
  go_upto_region 4 with fail
  generalize vw0.alloc (.cells #[.int .i64 a, .int .i64 b] 23) = y0 at *
  generalize vw0.heap.size = ga at *
  obtain ⟨u0, u1⟩ := cells2 (Q0.out.row (b := w.heap.size) (cs := #[.int .i64 n1, .int .i64 d1]) (t := 23) (by simp))
  obtain ⟨v0, v1⟩ := cells2 (Q0.out.row (b := w.heap.size + 1) (cs := #[.int .i64 n2, .int .i64 d2]) (t := 23) (by simp))
  go_wp2_with fail
  with_reducible refine (AY.out _).mono ?_
  rintro r vw1 ⟨rfl, hb⟩
  have Q1 := Lib.hid ((Q0.out.step hb).alloc #[.int .i64 a, .int .i64 b] 23)
  clear hb Q0 AY u0 u1 v0 v1
  go_upto_region 5 with fail
  generalize vw1.alloc (.cells #[.int .i64 a, .int .i64 b] 23) = y1 at *
  generalize vw1.heap.size = gb at *
  obtain ⟨u0, u1⟩ := cells2 (Q1.out.row (b := w.heap.size) (cs := #[.int .i64 n1, .int .i64 d1]) (t := 23) (by simp))
  obtain ⟨v0, v1⟩ := cells2 (Q1.out.row (b := w.heap.size + 1) (cs := #[.int .i64 n2, .int .i64 d2]) (t := 23) (by simp))
  go_wp2_with fail
  with_reducible refine (MX.out _).mono ?_
  rintro r vw2 ⟨rfl, hb⟩
  have Q2 := Lib.hid ((Q1.out.step hb).alloc #[.int .i64 ma, .int .i64 mb] 23)
  clear hb Q1 MX u0 u1 v0 v1
  go_upto_region 6 with fail
  generalize vw2.alloc (.cells #[.int .i64 ma, .int .i64 mb] 23) = y2 at *
  generalize vw2.heap.size = gc at *
  obtain ⟨u0, u1⟩ := cells2 (Q2.out.row (b := w.heap.size) (cs := #[.int .i64 n1, .int .i64 d1]) (t := 23) (by simp))
  obtain ⟨v0, v1⟩ := cells2 (Q2.out.row (b := w.heap.size + 1) (cs := #[.int .i64 n2, .int .i64 d2]) (t := 23) (by simp))
  go_wp2_with fail
  with_reducible refine (MY.out _).mono ?_
  rintro r vw3 ⟨rfl, hb⟩
  have Q3 := Lib.hid ((Q2.out.step hb).alloc #[.int .i64 ma, .int .i64 mb] 23)
  clear hb Q2 MY u0 u1 v0 v1
  go_upto_region 7 with fail
  generalize vw3.alloc (.cells #[.int .i64 ma, .int .i64 mb] 23) = y3 at *
  generalize vw3.heap.size = gd at *
  obtain ⟨p0, p1⟩ := cells2 (Q3.out.row (b := ga) (cs := #[.int .i64 a, .int .i64 b]) (t := 23) (by simp))
  obtain ⟨q0, q1⟩ := cells2 (Q3.out.row (b := gb) (cs := #[.int .i64 a, .int .i64 b]) (t := 23) (by simp))
  obtain ⟨r0, r1⟩ := cells2 (Q3.out.row (b := gc) (cs := #[.int .i64 ma, .int .i64 mb]) (t := 23) (by simp))
  obtain ⟨s0, s1⟩ := cells2 (Q3.out.row (b := gd) (cs := #[.int .i64 ma, .int .i64 mb]) (t := 23) (by simp))
  go_upto_if 79 with fail
  clear p0 p1 q0 q1 r0 r1 s0 s1
  go_cut [] (fun wx => Has w [(gc, #[.int .i64 ma, .int .i64 mb], 23), (w.heap.size, #[.int .i64 n1, .int .i64 d1], 23), (w.heap.size + 1, #[.int .i64 n2, .int .i64 d2], 23), (w.heap.size + 1 + 1, #[.int .i64 n3, .int .i64 d3], 23)] wx)
  case first =>
    as_aux_lemma =>
      by_cases he : e = 0
      · subst he
        obtain ⟨p0, p1⟩ := cells2 (Q3.out.row (b := ga) (cs := #[.int .i64 a, .int .i64 b]) (t := 23) (by simp))
        obtain ⟨v0, v1⟩ := cells2 (Q3.out.row (b := w.heap.size + 1) (cs := #[.int .i64 n2, .int .i64 d2]) (t := 23) (by simp))
        go_wp2_with fail
        with_reducible refine (SB.out _ (by first | trivial | rfl)).mono ?_
        rintro r v5 ⟨rfl, hb⟩
        have Q5 := Lib.hid ((Q3.out.step hb).alloc #[.int .i64 n1, .int .i64 d1] 23)
        clear hb Q3 p0 p1 v0 v1
        go_upto_region 11 with fail
        generalize v5.alloc (.cells #[.int .i64 n1, .int .i64 d1] 23) = y5 at *
        generalize v5.heap.size = gu at *
        obtain ⟨t0, t1⟩ := cells2 (Q5.out.row (b := gu) (cs := #[.int .i64 n1, .int .i64 d1]) (t := 23) (by simp))
        obtain ⟨u0, u1⟩ := cells2 (Q5.out.row (b := w.heap.size) (cs := #[.int .i64 n1, .int .i64 d1]) (t := 23) (by simp))
        go_wp2_with fail
        go_meet
        exact Q5.out.sub (by intro x hx; simp only [List.mem_cons, List.not_mem_nil, or_false] at hx ⊢; rcases hx with h | h | h | h <;> simp [h])
      · go_wp2_with fail
        go_meet
        exact Q3.out.sub (by intro x hx; simp only [List.mem_cons, List.not_mem_nil, or_false] at hx ⊢; rcases hx with h | h | h | h <;> simp [h])
  case rest =>
    have Q6 := Lib.hid hcut
    clear hcut Q3 SB
    go_upto_region 13 with fail
    go_cut [99] (fun s wx => ∃ t : Bool, s = .bool t ∧ (t = true → me = 0 ∧ ¬ n2 = 0) ∧ Has w [(gc, #[.int .i64 ma, .int .i64 mb], 23), (w.heap.size, #[.int .i64 n1, .int .i64 d1], 23), (w.heap.size + 1, #[.int .i64 n2, .int .i64 d2], 23), (w.heap.size + 1 + 1, #[.int .i64 n3, .int .i64 d3], 23)] wx)
    case first =>
      as_aux_lemma =>
        by_cases hm : me = 0
        · subst hm
          obtain ⟨v0, v1⟩ := cells2 (Q6.out.row (b := w.heap.size + 1) (cs := #[.int .i64 n2, .int .i64 d2]) (t := 23) (by simp))
          go_wp2_with fail
          go_meet
          exact ⟨_, rfl, fun h => ⟨(by first | trivial | rfl), (by simpa using h)⟩, Q6.out⟩
        · go_wp2_with fail
          go_meet
          exact ⟨false, rfl, fun h => (by cases h), Q6.out⟩
    case rest =>
      obtain ⟨t, rfl, ht, hQ⟩ := hcut
      have Q7 := Lib.hid hQ
      have HB := Lib.hid ht
      clear hQ ht Q6
      go_upto_if 99 with fail
      go_cut [] (fun wx => Has w [(w.heap.size, #[.int .i64 n1, .int .i64 d1], 23), (w.heap.size + 1, #[.int .i64 n2, .int .i64 d2], 23), (w.heap.size + 1 + 1, #[.int .i64 n3, .int .i64 d3], 23)] wx)
      case first =>
        as_aux_lemma =>
          cases t with
          | true =>
            obtain ⟨hm, h2⟩ := HB.out rfl
            subst hm
            obtain ⟨r0, r1⟩ := cells2 (Q7.out.row (b := gc) (cs := #[.int .i64 ma, .int .i64 mb]) (t := 23) (by simp))
            obtain ⟨v0, v1⟩ := cells2 (Q7.out.row (b := w.heap.size + 1) (cs := #[.int .i64 n2, .int .i64 d2]) (t := 23) (by simp))
            go_wp2_with fail
            with_reducible refine (DV.out _ (by first | trivial | rfl) h2).mono ?_
            rintro r vw8 ⟨rfl, hb⟩
            have Q8 := Lib.hid ((Q7.out.step hb).alloc #[.int .i64 n1, .int .i64 d1] 23)
            clear hb Q7 r0 r1 v0 v1
            go_upto_region 15 with fail
            generalize vw8.alloc (.cells #[.int .i64 n1, .int .i64 d1] 23) = y8 at *
            generalize vw8.heap.size = gu at *
            obtain ⟨t0, t1⟩ := cells2 (Q8.out.row (b := gu) (cs := #[.int .i64 n1, .int .i64 d1]) (t := 23) (by simp))
            obtain ⟨u0, u1⟩ := cells2 (Q8.out.row (b := w.heap.size) (cs := #[.int .i64 n1, .int .i64 d1]) (t := 23) (by simp))
            go_wp2_with fail
            go_meet
            exact Q8.out.sub (by intro x hx; simp only [List.mem_cons, List.not_mem_nil, or_false] at hx ⊢; rcases hx with h | h | h <;> simp [h])
          | false =>
            go_wp2_with fail
            go_meet
            exact Q7.out.sub (by intro x hx; simp only [List.mem_cons, List.not_mem_nil, or_false] at hx ⊢; rcases hx with h | h | h <;> simp [h])
      case rest =>
        have Q9 := Lib.hid hcut
        clear hcut Q7 HB DV
        go_upto_region 18 with fail
        have E0 : HEk w wc.heap.size 0 (L3 w.heap.size n1 d1 n2 d2 n3 d3) (wc.alloc (.cells #[.int .i64 0] 24)) := HEk.mk (HE.start Q9.out 0)
        have HS := Lib.hid (show ∀ x ∈ (L3 w.heap.size n1 d1 n2 d2 n3 d3), x ∈ (L3 w.heap.size n1 d1 n2 d2 n3 d3) from fun x h => h)
        clear Q9
        generalize wc.alloc (.cells #[.int .i64 0] 24) = y17 at *
        generalize wc.heap.size = g at *
        go_cut [20] (fun s wx => ∃ gl, s = .pointer (some ⟨gl, 0, none⟩) ∧ HB w g s2 gl (.int .i64 l1) (.int .i64 l2) (L3 w.heap.size n1 d1 n2 d2 n3 d3) wx)
        case first =>
          as_aux_lemma =>
            clear C3 C4 C5 C6 C7 C8 C9 C10 C11 C12 C13 H20 H25 H30 HT
            refine wp_region_noPanic ?_
            have FS := Lib.hid (HE.drew E0.out)
            refine wp_region_held_drew (S := (fun V => X3 w g n1 d1 n2 d2 n3 d3 V ∧ V.cell? ⟨w.heap.size, 0, none⟩ = some (.int .i64 n1) ∧ V.cell? ⟨w.heap.size, 1, none⟩ = some (.int .i64 d1) ∧ V.cell? ⟨w.heap.size + 1, 0, none⟩ = some (.int .i64 n2) ∧ V.cell? ⟨w.heap.size + 1, 1, none⟩ = some (.int .i64 d2) ∧ V.cell? ⟨w.heap.size + 1 + 1, 0, none⟩ = some (.int .i64 n3) ∧ V.cell? ⟨w.heap.size + 1 + 1, 1, none⟩ = some (.int .i64 d3))) (by kernel_rfl) (X3.all (HE.x3 FS.out HS.out)) (fun hHeld => ?_)
            refine wpAnyH_take (i := 0) (v := _) rfl (by kernel_rfl) (by kernel_rfl) (by kernel_rfl) (fun _ _ _ h => h) (Or.inl ⟨by rfl, by intro w hSw; (try dsimp only at hSw); go_simp; try (with_reducible rfl)⟩) (by assumption) ?_
            try simp only [Act.put, List.setIfInBounds_toArray, List.set_cons_zero, List.set_cons_succ]
            refine wpAnyH_take (i := 1) (v := _) rfl (by kernel_rfl) (by kernel_rfl) (by kernel_rfl) (fun _ _ _ h => h) (Or.inl ⟨by rfl, by intro w hSw; (try dsimp only at hSw); go_simp; try (with_reducible rfl)⟩) (by assumption) ?_
            try simp only [Act.put, List.setIfInBounds_toArray, List.set_cons_zero, List.set_cons_succ]
            refine wpAnyH_take (i := 3) (v := _) rfl (by kernel_rfl) (by kernel_rfl) (by kernel_rfl) (fun _ _ _ h => h) (Or.inl ⟨by rfl, by intro w hSw; (try dsimp only at hSw); go_simp; try (with_reducible rfl)⟩) (by assumption) ?_
            try simp only [Act.put, List.setIfInBounds_toArray, List.set_cons_zero, List.set_cons_succ]
            refine wpAnyH_ready (rs := [2, 5]) (by kernel_rfl) (by simp) ?_
            refine AllReadyH.cons rfl (fun K hK => ?_) (AllReadyH.cons rfl (fun K hK => ?_) AllReadyH.nil)
            · skip
              go_simp
              go_at_call 32
              with_reducible refine Calls.mono (C1.out _ _ (HE.cell FS.out)) ?_
              rintro r wq0 ⟨rfl, hb⟩
              have F0 := Lib.hid (HE.kq FS.out hb)
              clear hb
              refine hK.out _ _ (X3.all (HE.x3 F0.out HS.out)) (fun hHeld => ?_)
              clear hK K
              try simp only [Act.put, List.setIfInBounds_toArray, List.set_cons_zero, List.set_cons_succ]
              refine wpAnyH_ready (rs := [4, 5]) (by kernel_rfl) (by simp) ?_
              refine AllReadyH.cons rfl (fun K hK => ?_) (AllReadyH.cons rfl (fun K hK => ?_) AllReadyH.nil)
              · skip
                go_simp
                go_at_call 32
                with_reducible refine Calls.mono (C2.out _ _ (HE.cell F0.out)) ?_
                rintro r wq1 ⟨rfl, hb⟩
                have F1 := Lib.hid (HE.kq F0.out hb)
                clear hb
                refine hK.out _ _ (X3.all (HE.x3 F1.out HS.out)) (fun hHeld => ?_)
                clear hK K
                try simp only [Act.put, List.setIfInBounds_toArray, List.set_cons_zero, List.set_cons_succ]
                refine wpAnyH_ready (rs := [5]) (by kernel_rfl) (by simp) ?_
                refine AllReadyH.cons rfl (fun K hK => ?_) AllReadyH.nil
                go_simp
                have F2 := Lib.hid (HB.new (x1 := .int .i64 0) (x2 := .int .i64 0) F1.out)
                refine hK.out _ _ (X3.all (HB.x3 F2.out HS.out)) (fun hHeld => ?_)
                clear hK K
                try simp only [Act.put, List.setIfInBounds_toArray, List.set_cons_zero, List.set_cons_succ]
                generalize wq1.alloc (.cells #[.int .i64 0, .int .i64 0] 23) = vq at *
                generalize wq1.heap.size = bq at *
                refine wpAnyH_ready (rs := [6]) (by kernel_rfl) (by simp) ?_
                refine AllReadyH.cons rfl (fun K hK => ?_) AllReadyH.nil
                obtain ⟨_, _, _, _⟩ := HB.cells F2.out
                go_simp
                refine hK.out _ _ (X3.all (HB.x3 (HB.put F2.out) HS.out)) (fun hHeld => ?_)
                clear hK K
                try simp only [Act.put, List.setIfInBounds_toArray, List.set_cons_zero, List.set_cons_succ]
                refine wpAnyH_done (by kernel_rfl) ?_ _
                refine NoPanic.normal ?_
                go_wp2
                go_meet
                exact ⟨_, rfl, (HB.put F2.out)⟩
              · skip
                go_simp
                have F1 := Lib.hid (HB.new (x1 := .int .i64 0) (x2 := .int .i64 0) F0.out)
                refine hK.out _ _ (X3.all (HB.x3 F1.out HS.out)) (fun hHeld => ?_)
                clear hK K
                try simp only [Act.put, List.setIfInBounds_toArray, List.set_cons_zero, List.set_cons_succ]
                generalize wq0.alloc (.cells #[.int .i64 0, .int .i64 0] 23) = vq at *
                generalize wq0.heap.size = bq at *
                refine wpAnyH_ready (rs := [4]) (by kernel_rfl) (by simp) ?_
                refine AllReadyH.cons rfl (fun K hK => ?_) AllReadyH.nil
                go_simp
                go_at_call 32
                with_reducible refine Calls.mono (C2.out _ _ (HE.cell (HB.he F1.out))) ?_
                rintro r wq2 ⟨rfl, hb⟩
                have F2 := Lib.hid (HB.kq F1.out hb)
                clear hb
                refine hK.out _ _ (X3.all (HB.x3 F2.out HS.out)) (fun hHeld => ?_)
                clear hK K
                try simp only [Act.put, List.setIfInBounds_toArray, List.set_cons_zero, List.set_cons_succ]
                refine wpAnyH_ready (rs := [6]) (by kernel_rfl) (by simp) ?_
                refine AllReadyH.cons rfl (fun K hK => ?_) AllReadyH.nil
                obtain ⟨_, _, _, _⟩ := HB.cells F2.out
                go_simp
                refine hK.out _ _ (X3.all (HB.x3 (HB.put F2.out) HS.out)) (fun hHeld => ?_)
                clear hK K
                try simp only [Act.put, List.setIfInBounds_toArray, List.set_cons_zero, List.set_cons_succ]
                refine wpAnyH_done (by kernel_rfl) ?_ _
                refine NoPanic.normal ?_
                go_wp2
                go_meet
                exact ⟨_, rfl, (HB.put F2.out)⟩
            · skip
              go_simp
              have F0 := Lib.hid (HB.drew (HB.new (x1 := .int .i64 0) (x2 := .int .i64 0) E0.out))
              refine hK.out _ _ (X3.all (HB.x3 F0.out HS.out)) (fun hHeld => ?_)
              clear hK K
              try simp only [Act.put, List.setIfInBounds_toArray, List.set_cons_zero, List.set_cons_succ]
              generalize y17.alloc (.cells #[.int .i64 0, .int .i64 0] 23) = vq at *
              generalize y17.heap.size = bq at *
              refine wpAnyH_ready (rs := [2]) (by kernel_rfl) (by simp) ?_
              refine AllReadyH.cons rfl (fun K hK => ?_) AllReadyH.nil
              go_simp
              go_at_call 32
              with_reducible refine Calls.mono (C1.out _ _ (HE.cell (HB.he F0.out))) ?_
              rintro r wq1 ⟨rfl, hb⟩
              have F1 := Lib.hid (HB.kq F0.out hb)
              clear hb
              refine hK.out _ _ (X3.all (HB.x3 F1.out HS.out)) (fun hHeld => ?_)
              clear hK K
              try simp only [Act.put, List.setIfInBounds_toArray, List.set_cons_zero, List.set_cons_succ]
              refine wpAnyH_ready (rs := [4]) (by kernel_rfl) (by simp) ?_
              refine AllReadyH.cons rfl (fun K hK => ?_) AllReadyH.nil
              go_simp
              go_at_call 32
              with_reducible refine Calls.mono (C2.out _ _ (HE.cell (HB.he F1.out))) ?_
              rintro r wq2 ⟨rfl, hb⟩
              have F2 := Lib.hid (HB.kq F1.out hb)
              clear hb
              refine hK.out _ _ (X3.all (HB.x3 F2.out HS.out)) (fun hHeld => ?_)
              clear hK K
              try simp only [Act.put, List.setIfInBounds_toArray, List.set_cons_zero, List.set_cons_succ]
              refine wpAnyH_ready (rs := [6]) (by kernel_rfl) (by simp) ?_
              refine AllReadyH.cons rfl (fun K hK => ?_) AllReadyH.nil
              obtain ⟨_, _, _, _⟩ := HB.cells F2.out
              go_simp
              refine hK.out _ _ (X3.all (HB.x3 (HB.put F2.out) HS.out)) (fun hHeld => ?_)
              clear hK K
              try simp only [Act.put, List.setIfInBounds_toArray, List.set_cons_zero, List.set_cons_succ]
              refine wpAnyH_done (by kernel_rfl) ?_ _
              refine NoPanic.normal ?_
              go_wp2
              go_meet
              exact ⟨_, rfl, (HB.put F2.out)⟩
        case rest =>
          obtain ⟨gl, rfl, hB⟩ := hcut
          have E1 := HEk.mk hB.he
          have NL := Lib.hid hB.ne
          clear hB E0 HS C1 C2
          have HS := Lib.hid (show ∀ x ∈ (L3 w.heap.size n1 d1 n2 d2 n3 d3), x ∈ ((gl, #[.int .i64 l1, .int .i64 l2], 23) :: (L3 w.heap.size n1 d1 n2 d2 n3 d3)) from fun x h => List.mem_cons_of_mem _ h)
          go_upto_region 19 with fail
          go_cut [21] (fun s wx => ∃ gr, s = .pointer (some ⟨gr, 0, none⟩) ∧ HB w g s4 gr (.int .i64 r1) (.int .i64 r2) ((gl, #[.int .i64 l1, .int .i64 l2], 23) :: (L3 w.heap.size n1 d1 n2 d2 n3 d3)) wx)
          case first =>
            as_aux_lemma =>
              clear C5 C6 C7 C8 C9 C10 C11 C12 C13 H20 H25 H30 HT
              refine wp_region_noPanic ?_
              have FS := Lib.hid (HE.drew E1.out)
              refine wp_region_held_drew (S := (fun V => X3 w g n1 d1 n2 d2 n3 d3 V ∧ V.cell? ⟨w.heap.size, 0, none⟩ = some (.int .i64 n1) ∧ V.cell? ⟨w.heap.size, 1, none⟩ = some (.int .i64 d1) ∧ V.cell? ⟨w.heap.size + 1, 0, none⟩ = some (.int .i64 n2) ∧ V.cell? ⟨w.heap.size + 1, 1, none⟩ = some (.int .i64 d2) ∧ V.cell? ⟨w.heap.size + 1 + 1, 0, none⟩ = some (.int .i64 n3) ∧ V.cell? ⟨w.heap.size + 1 + 1, 1, none⟩ = some (.int .i64 d3))) (by kernel_rfl) (X3.all (HE.x3 FS.out HS.out)) (fun hHeld => ?_)
              refine wpAnyH_take (i := 0) (v := _) rfl (by kernel_rfl) (by kernel_rfl) (by kernel_rfl) (fun _ _ _ h => h) (Or.inl ⟨by rfl, by intro w hSw; (try dsimp only at hSw); go_simp; try (with_reducible rfl)⟩) (by assumption) ?_
              try simp only [Act.put, List.setIfInBounds_toArray, List.set_cons_zero, List.set_cons_succ]
              refine wpAnyH_take (i := 1) (v := _) rfl (by kernel_rfl) (by kernel_rfl) (by kernel_rfl) (fun _ _ _ h => h) (Or.inl ⟨by rfl, by intro w hSw; (try dsimp only at hSw); go_simp; try (with_reducible rfl)⟩) (by assumption) ?_
              try simp only [Act.put, List.setIfInBounds_toArray, List.set_cons_zero, List.set_cons_succ]
              refine wpAnyH_take (i := 2) (v := _) rfl (by kernel_rfl) (by kernel_rfl) (by kernel_rfl) (fun _ _ _ h => h) (Or.inl ⟨by rfl, by intro w hSw; (try dsimp only at hSw); go_simp; try (with_reducible rfl)⟩) (by assumption) ?_
              try simp only [Act.put, List.setIfInBounds_toArray, List.set_cons_zero, List.set_cons_succ]
              refine wpAnyH_ready (rs := [3, 5]) (by kernel_rfl) (by simp) ?_
              refine AllReadyH.cons rfl (fun K hK => ?_) (AllReadyH.cons rfl (fun K hK => ?_) AllReadyH.nil)
              · skip
                go_simp
                go_at_call 32
                with_reducible refine Calls.mono (C3.out _ _ (HE.cell FS.out)) ?_
                rintro r wq0 ⟨rfl, hb⟩
                have F0 := Lib.hid (HE.kq FS.out hb)
                clear hb
                refine hK.out _ _ (X3.all (HE.x3 F0.out HS.out)) (fun hHeld => ?_)
                clear hK K
                try simp only [Act.put, List.setIfInBounds_toArray, List.set_cons_zero, List.set_cons_succ]
                refine wpAnyH_ready (rs := [4, 5]) (by kernel_rfl) (by simp) ?_
                refine AllReadyH.cons rfl (fun K hK => ?_) (AllReadyH.cons rfl (fun K hK => ?_) AllReadyH.nil)
                · skip
                  go_simp
                  go_at_call 32
                  with_reducible refine Calls.mono (C4.out _ _ (HE.cell F0.out)) ?_
                  rintro r wq1 ⟨rfl, hb⟩
                  have F1 := Lib.hid (HE.kq F0.out hb)
                  clear hb
                  refine hK.out _ _ (X3.all (HE.x3 F1.out HS.out)) (fun hHeld => ?_)
                  clear hK K
                  try simp only [Act.put, List.setIfInBounds_toArray, List.set_cons_zero, List.set_cons_succ]
                  refine wpAnyH_ready (rs := [5]) (by kernel_rfl) (by simp) ?_
                  refine AllReadyH.cons rfl (fun K hK => ?_) AllReadyH.nil
                  go_simp
                  have F2 := Lib.hid (HB.new (x1 := .int .i64 0) (x2 := .int .i64 0) F1.out)
                  refine hK.out _ _ (X3.all (HB.x3 F2.out HS.out)) (fun hHeld => ?_)
                  clear hK K
                  try simp only [Act.put, List.setIfInBounds_toArray, List.set_cons_zero, List.set_cons_succ]
                  generalize wq1.alloc (.cells #[.int .i64 0, .int .i64 0] 23) = vq at *
                  generalize wq1.heap.size = bq at *
                  refine wpAnyH_ready (rs := [6]) (by kernel_rfl) (by simp) ?_
                  refine AllReadyH.cons rfl (fun K hK => ?_) AllReadyH.nil
                  obtain ⟨_, _, _, _⟩ := HB.cells F2.out
                  go_simp
                  refine hK.out _ _ (X3.all (HB.x3 (HB.put F2.out) HS.out)) (fun hHeld => ?_)
                  clear hK K
                  try simp only [Act.put, List.setIfInBounds_toArray, List.set_cons_zero, List.set_cons_succ]
                  refine wpAnyH_done (by kernel_rfl) ?_ _
                  refine NoPanic.normal ?_
                  go_wp2
                  go_meet
                  exact ⟨_, rfl, (HB.put F2.out)⟩
                · skip
                  go_simp
                  have F1 := Lib.hid (HB.new (x1 := .int .i64 0) (x2 := .int .i64 0) F0.out)
                  refine hK.out _ _ (X3.all (HB.x3 F1.out HS.out)) (fun hHeld => ?_)
                  clear hK K
                  try simp only [Act.put, List.setIfInBounds_toArray, List.set_cons_zero, List.set_cons_succ]
                  generalize wq0.alloc (.cells #[.int .i64 0, .int .i64 0] 23) = vq at *
                  generalize wq0.heap.size = bq at *
                  refine wpAnyH_ready (rs := [4]) (by kernel_rfl) (by simp) ?_
                  refine AllReadyH.cons rfl (fun K hK => ?_) AllReadyH.nil
                  go_simp
                  go_at_call 32
                  with_reducible refine Calls.mono (C4.out _ _ (HE.cell (HB.he F1.out))) ?_
                  rintro r wq2 ⟨rfl, hb⟩
                  have F2 := Lib.hid (HB.kq F1.out hb)
                  clear hb
                  refine hK.out _ _ (X3.all (HB.x3 F2.out HS.out)) (fun hHeld => ?_)
                  clear hK K
                  try simp only [Act.put, List.setIfInBounds_toArray, List.set_cons_zero, List.set_cons_succ]
                  refine wpAnyH_ready (rs := [6]) (by kernel_rfl) (by simp) ?_
                  refine AllReadyH.cons rfl (fun K hK => ?_) AllReadyH.nil
                  obtain ⟨_, _, _, _⟩ := HB.cells F2.out
                  go_simp
                  refine hK.out _ _ (X3.all (HB.x3 (HB.put F2.out) HS.out)) (fun hHeld => ?_)
                  clear hK K
                  try simp only [Act.put, List.setIfInBounds_toArray, List.set_cons_zero, List.set_cons_succ]
                  refine wpAnyH_done (by kernel_rfl) ?_ _
                  refine NoPanic.normal ?_
                  go_wp2
                  go_meet
                  exact ⟨_, rfl, (HB.put F2.out)⟩
              · skip
                go_simp
                have F0 := Lib.hid (HB.drew (HB.new (x1 := .int .i64 0) (x2 := .int .i64 0) E1.out))
                refine hK.out _ _ (X3.all (HB.x3 F0.out HS.out)) (fun hHeld => ?_)
                clear hK K
                try simp only [Act.put, List.setIfInBounds_toArray, List.set_cons_zero, List.set_cons_succ]
                generalize wc.alloc (.cells #[.int .i64 0, .int .i64 0] 23) = vq at *
                generalize wc.heap.size = bq at *
                refine wpAnyH_ready (rs := [3]) (by kernel_rfl) (by simp) ?_
                refine AllReadyH.cons rfl (fun K hK => ?_) AllReadyH.nil
                go_simp
                go_at_call 32
                with_reducible refine Calls.mono (C3.out _ _ (HE.cell (HB.he F0.out))) ?_
                rintro r wq1 ⟨rfl, hb⟩
                have F1 := Lib.hid (HB.kq F0.out hb)
                clear hb
                refine hK.out _ _ (X3.all (HB.x3 F1.out HS.out)) (fun hHeld => ?_)
                clear hK K
                try simp only [Act.put, List.setIfInBounds_toArray, List.set_cons_zero, List.set_cons_succ]
                refine wpAnyH_ready (rs := [4]) (by kernel_rfl) (by simp) ?_
                refine AllReadyH.cons rfl (fun K hK => ?_) AllReadyH.nil
                go_simp
                go_at_call 32
                with_reducible refine Calls.mono (C4.out _ _ (HE.cell (HB.he F1.out))) ?_
                rintro r wq2 ⟨rfl, hb⟩
                have F2 := Lib.hid (HB.kq F1.out hb)
                clear hb
                refine hK.out _ _ (X3.all (HB.x3 F2.out HS.out)) (fun hHeld => ?_)
                clear hK K
                try simp only [Act.put, List.setIfInBounds_toArray, List.set_cons_zero, List.set_cons_succ]
                refine wpAnyH_ready (rs := [6]) (by kernel_rfl) (by simp) ?_
                refine AllReadyH.cons rfl (fun K hK => ?_) AllReadyH.nil
                obtain ⟨_, _, _, _⟩ := HB.cells F2.out
                go_simp
                refine hK.out _ _ (X3.all (HB.x3 (HB.put F2.out) HS.out)) (fun hHeld => ?_)
                clear hK K
                try simp only [Act.put, List.setIfInBounds_toArray, List.set_cons_zero, List.set_cons_succ]
                refine wpAnyH_done (by kernel_rfl) ?_ _
                refine NoPanic.normal ?_
                go_wp2
                go_meet
                exact ⟨_, rfl, (HB.put F2.out)⟩
          case rest =>
            obtain ⟨gr, rfl, hB⟩ := hcut
            have D0 := Lib.hid (HB.two hB NL.out).swap
            clear hB E1 HS NL C3 C4
            go_upto_region 20 with fail
            go_cut [129] (fun s wx => s = .bool false ∧ HD w g s4 gl (.int .i64 l1) (.int .i64 l2) gr (.int .i64 r1) (.int .i64 r2) (L3 w.heap.size n1 d1 n2 d2 n3 d3) wx)
            case first =>
              as_aux_lemma =>
                obtain ⟨⟨_, _, _, _⟩, ⟨_, _, _, _⟩, _, _⟩ := D0.out.cells
                by_cases hs : s4 = 0
                · obtain ⟨hl, hr⟩ := H20.out hs
                  subst hs hl hr
                  go_wp2_with fail
                  go_meet
                  exact ⟨rfl, D0.out⟩
                · go_wp2_with fail
                  go_meet
                  exact ⟨rfl, D0.out⟩
            case rest =>
              obtain ⟨rfl, hD⟩ := hcut
              go_upto_region 22 with fail
              obtain ⟨_, fe⟩ := hD.he.ecell
              have D1 := Lib.hid (hD.setg 0)
              clear hD
              go_upto_region 23 with fail
              clear fe
              generalize wc.setCell ⟨g, 0, none⟩ (.int .i64 0) = y1 at *
              clear D0 H20
              go_upto_region 23 with fail
              have B1 := HBk.mk D1.out.left
              have NL := Lib.hid D1.out.nq
              clear D1
              have HS := Lib.hid (show ∀ x ∈ (L3 w.heap.size n1 d1 n2 d2 n3 d3), x ∈ ((gr, #[.int .i64 r1, .int .i64 r2], 23) :: (L3 w.heap.size n1 d1 n2 d2 n3 d3)) from fun x h => List.mem_cons_of_mem _ h)
              go_cut [] (fun wx => HB w g s6 gl (.int .i64 l3) (.int .i64 l4) ((gr, #[.int .i64 r1, .int .i64 r2], 23) :: (L3 w.heap.size n1 d1 n2 d2 n3 d3)) wx)
              case first =>
                as_aux_lemma =>
                  clear C7 C8 C9 C10 C11 C12 C13 H25 H30 HT
                  refine wp_region_noPanic ?_
                  have FS := Lib.hid (HB.drew B1.out)
                  refine wp_region_held_drew (S := (fun V => X3 w g n1 d1 n2 d2 n3 d3 V ∧ V.cell? ⟨w.heap.size, 0, none⟩ = some (.int .i64 n1) ∧ V.cell? ⟨w.heap.size, 1, none⟩ = some (.int .i64 d1) ∧ V.cell? ⟨w.heap.size + 1, 0, none⟩ = some (.int .i64 n2) ∧ V.cell? ⟨w.heap.size + 1, 1, none⟩ = some (.int .i64 d2) ∧ V.cell? ⟨w.heap.size + 1 + 1, 0, none⟩ = some (.int .i64 n3) ∧ V.cell? ⟨w.heap.size + 1 + 1, 1, none⟩ = some (.int .i64 d3))) (by kernel_rfl) (X3.all (HB.x3 FS.out HS.out)) (fun hHeld => ?_)
                  refine wpAnyH_take (i := 0) (v := _) rfl (by kernel_rfl) (by kernel_rfl) (by kernel_rfl) (fun _ _ _ h => h) (Or.inl ⟨by rfl, by intro w hSw; (try dsimp only at hSw); go_simp; try (with_reducible rfl)⟩) (by assumption) ?_
                  try simp only [Act.put, List.setIfInBounds_toArray, List.set_cons_zero, List.set_cons_succ]
                  refine wpAnyH_take (i := 1) (v := _) rfl (by kernel_rfl) (by kernel_rfl) (by kernel_rfl) (fun _ _ _ h => h) (Or.inl ⟨by rfl, by intro w hSw; (try dsimp only at hSw); go_simp; try (with_reducible rfl)⟩) (by assumption) ?_
                  try simp only [Act.put, List.setIfInBounds_toArray, List.set_cons_zero, List.set_cons_succ]
                  refine wpAnyH_take (i := 3) (v := _) rfl (by kernel_rfl) (by kernel_rfl) (by kernel_rfl) (fun _ _ _ h => h) (Or.inl ⟨by rfl, by intro w hSw; (try dsimp only at hSw); go_simp; try (with_reducible rfl)⟩) (by assumption) ?_
                  try simp only [Act.put, List.setIfInBounds_toArray, List.set_cons_zero, List.set_cons_succ]
                  refine wpAnyH_ready (rs := [2]) (by kernel_rfl) (by simp) ?_
                  refine AllReadyH.cons rfl (fun K hK => ?_) AllReadyH.nil
                  go_simp
                  go_at_call 33
                  with_reducible refine Calls.mono (C5.out _ _ (HE.cell (HB.he FS.out))) ?_
                  rintro r wq0 ⟨rfl, hb⟩
                  have F0 := Lib.hid (HB.kq FS.out hb)
                  clear hb
                  refine hK.out _ _ (X3.all (HB.x3 F0.out HS.out)) (fun hHeld => ?_)
                  clear hK K
                  try simp only [Act.put, List.setIfInBounds_toArray, List.set_cons_zero, List.set_cons_succ]
                  refine wpAnyH_ready (rs := [4]) (by kernel_rfl) (by simp) ?_
                  refine AllReadyH.cons rfl (fun K hK => ?_) AllReadyH.nil
                  go_simp
                  go_at_call 33
                  with_reducible refine Calls.mono (C6.out _ _ (HE.cell (HB.he F0.out))) ?_
                  rintro r wq1 ⟨rfl, hb⟩
                  have F1 := Lib.hid (HB.kq F0.out hb)
                  clear hb
                  refine hK.out _ _ (X3.all (HB.x3 F1.out HS.out)) (fun hHeld => ?_)
                  clear hK K
                  try simp only [Act.put, List.setIfInBounds_toArray, List.set_cons_zero, List.set_cons_succ]
                  refine wpAnyH_ready (rs := [5]) (by kernel_rfl) (by simp) ?_
                  refine AllReadyH.cons rfl (fun K hK => ?_) AllReadyH.nil
                  obtain ⟨_, _, _, _⟩ := HB.cells F1.out
                  go_simp
                  refine hK.out _ _ (X3.all (HB.x3 (HB.put F1.out) HS.out)) (fun hHeld => ?_)
                  clear hK K
                  try simp only [Act.put, List.setIfInBounds_toArray, List.set_cons_zero, List.set_cons_succ]
                  refine wpAnyH_done (by kernel_rfl) ?_ _
                  refine NoPanic.normal ?_
                  go_wp2
                  go_meet
                  exact (HB.put F1.out)
              case rest =>
                have D2 := Lib.hid (HB.two hcut NL.out)
                clear hcut B1 HS NL C5 C6
                go_upto_region 24 with fail
                have B1 := HBk.mk D2.out.right
                have NL := Lib.hid D2.out.np
                clear D2
                have HS := Lib.hid (show ∀ x ∈ (L3 w.heap.size n1 d1 n2 d2 n3 d3), x ∈ ((gl, #[.int .i64 l3, .int .i64 l4], 23) :: (L3 w.heap.size n1 d1 n2 d2 n3 d3)) from fun x h => List.mem_cons_of_mem _ h)
                go_cut [] (fun wx => HB w g s8 gr (.int .i64 r3) (.int .i64 r4) ((gl, #[.int .i64 l3, .int .i64 l4], 23) :: (L3 w.heap.size n1 d1 n2 d2 n3 d3)) wx)
                case first =>
                  as_aux_lemma =>
                    clear C9 C10 C11 C12 C13 H25 H30 HT
                    refine wp_region_noPanic ?_
                    have FS := Lib.hid (HB.drew B1.out)
                    refine wp_region_held_drew (S := (fun V => X3 w g n1 d1 n2 d2 n3 d3 V ∧ V.cell? ⟨w.heap.size, 0, none⟩ = some (.int .i64 n1) ∧ V.cell? ⟨w.heap.size, 1, none⟩ = some (.int .i64 d1) ∧ V.cell? ⟨w.heap.size + 1, 0, none⟩ = some (.int .i64 n2) ∧ V.cell? ⟨w.heap.size + 1, 1, none⟩ = some (.int .i64 d2) ∧ V.cell? ⟨w.heap.size + 1 + 1, 0, none⟩ = some (.int .i64 n3) ∧ V.cell? ⟨w.heap.size + 1 + 1, 1, none⟩ = some (.int .i64 d3))) (by kernel_rfl) (X3.all (HB.x3 FS.out HS.out)) (fun hHeld => ?_)
                    refine wpAnyH_take (i := 0) (v := _) rfl (by kernel_rfl) (by kernel_rfl) (by kernel_rfl) (fun _ _ _ h => h) (Or.inl ⟨by rfl, by intro w hSw; (try dsimp only at hSw); go_simp; try (with_reducible rfl)⟩) (by assumption) ?_
                    try simp only [Act.put, List.setIfInBounds_toArray, List.set_cons_zero, List.set_cons_succ]
                    refine wpAnyH_take (i := 1) (v := _) rfl (by kernel_rfl) (by kernel_rfl) (by kernel_rfl) (fun _ _ _ h => h) (Or.inl ⟨by rfl, by intro w hSw; (try dsimp only at hSw); go_simp; try (with_reducible rfl)⟩) (by assumption) ?_
                    try simp only [Act.put, List.setIfInBounds_toArray, List.set_cons_zero, List.set_cons_succ]
                    refine wpAnyH_take (i := 2) (v := _) rfl (by kernel_rfl) (by kernel_rfl) (by kernel_rfl) (fun _ _ _ h => h) (Or.inl ⟨by rfl, by intro w hSw; (try dsimp only at hSw); go_simp; try (with_reducible rfl)⟩) (by assumption) ?_
                    try simp only [Act.put, List.setIfInBounds_toArray, List.set_cons_zero, List.set_cons_succ]
                    refine wpAnyH_ready (rs := [3]) (by kernel_rfl) (by simp) ?_
                    refine AllReadyH.cons rfl (fun K hK => ?_) AllReadyH.nil
                    go_simp
                    go_at_call 33
                    with_reducible refine Calls.mono (C7.out _ _ (HE.cell (HB.he FS.out))) ?_
                    rintro r wq0 ⟨rfl, hb⟩
                    have F0 := Lib.hid (HB.kq FS.out hb)
                    clear hb
                    refine hK.out _ _ (X3.all (HB.x3 F0.out HS.out)) (fun hHeld => ?_)
                    clear hK K
                    try simp only [Act.put, List.setIfInBounds_toArray, List.set_cons_zero, List.set_cons_succ]
                    refine wpAnyH_ready (rs := [4]) (by kernel_rfl) (by simp) ?_
                    refine AllReadyH.cons rfl (fun K hK => ?_) AllReadyH.nil
                    go_simp
                    go_at_call 33
                    with_reducible refine Calls.mono (C8.out _ _ (HE.cell (HB.he F0.out))) ?_
                    rintro r wq1 ⟨rfl, hb⟩
                    have F1 := Lib.hid (HB.kq F0.out hb)
                    clear hb
                    refine hK.out _ _ (X3.all (HB.x3 F1.out HS.out)) (fun hHeld => ?_)
                    clear hK K
                    try simp only [Act.put, List.setIfInBounds_toArray, List.set_cons_zero, List.set_cons_succ]
                    refine wpAnyH_ready (rs := [5]) (by kernel_rfl) (by simp) ?_
                    refine AllReadyH.cons rfl (fun K hK => ?_) AllReadyH.nil
                    obtain ⟨_, _, _, _⟩ := HB.cells F1.out
                    go_simp
                    refine hK.out _ _ (X3.all (HB.x3 (HB.put F1.out) HS.out)) (fun hHeld => ?_)
                    clear hK K
                    try simp only [Act.put, List.setIfInBounds_toArray, List.set_cons_zero, List.set_cons_succ]
                    refine wpAnyH_done (by kernel_rfl) ?_ _
                    refine NoPanic.normal ?_
                    go_wp2
                    go_meet
                    exact (HB.put F1.out)
                case rest =>
                  have D3 := Lib.hid (HB.two hcut NL.out)
                  clear hcut B1 HS NL C7 C8
                  have D3 := Lib.hid D3.out.swap
                  go_upto_region 25 with fail
                  go_cut [146] (fun s wx => s = .bool false ∧ HD w g s8 gl (.int .i64 l3) (.int .i64 l4) gr (.int .i64 r3) (.int .i64 r4) (L3 w.heap.size n1 d1 n2 d2 n3 d3) wx)
                  case first =>
                    as_aux_lemma =>
                      obtain ⟨⟨_, _, _, _⟩, ⟨_, _, _, _⟩, _, _⟩ := D3.out.cells
                      by_cases hs : s8 = 0
                      · obtain ⟨hl, hr⟩ := H25.out hs
                        subst hs hl hr
                        go_wp2_with fail
                        go_meet
                        exact ⟨rfl, D3.out⟩
                      · go_wp2_with fail
                        go_meet
                        exact ⟨rfl, D3.out⟩
                  case rest =>
                    obtain ⟨rfl, hD⟩ := hcut
                    go_upto_region 27 with fail
                    obtain ⟨_, fe⟩ := hD.he.ecell
                    have D4 := Lib.hid (hD.setg 0)
                    clear hD
                    go_upto_region 28 with fail
                    clear fe
                    generalize wc.setCell ⟨g, 0, none⟩ (.int .i64 0) = y4 at *
                    clear D3 H25
                    go_upto_region 28 with fail
                    have B1 := HBk.mk D4.out.left
                    have NL := Lib.hid D4.out.nq
                    clear D4
                    have HS := Lib.hid (show ∀ x ∈ (L3 w.heap.size n1 d1 n2 d2 n3 d3), x ∈ ((gr, #[.int .i64 r3, .int .i64 r4], 23) :: (L3 w.heap.size n1 d1 n2 d2 n3 d3)) from fun x h => List.mem_cons_of_mem _ h)
                    go_cut [] (fun wx => HB w g s10 gl (.int .i64 l5) (.int .i64 l6) ((gr, #[.int .i64 r3, .int .i64 r4], 23) :: (L3 w.heap.size n1 d1 n2 d2 n3 d3)) wx)
                    case first =>
                      as_aux_lemma =>
                        clear C11 C12 C13 H30 HT
                        refine wp_region_noPanic ?_
                        have FS := Lib.hid (HB.drew B1.out)
                        refine wp_region_held_drew (S := (fun V => X3 w g n1 d1 n2 d2 n3 d3 V ∧ V.cell? ⟨w.heap.size, 0, none⟩ = some (.int .i64 n1) ∧ V.cell? ⟨w.heap.size, 1, none⟩ = some (.int .i64 d1) ∧ V.cell? ⟨w.heap.size + 1, 0, none⟩ = some (.int .i64 n2) ∧ V.cell? ⟨w.heap.size + 1, 1, none⟩ = some (.int .i64 d2) ∧ V.cell? ⟨w.heap.size + 1 + 1, 0, none⟩ = some (.int .i64 n3) ∧ V.cell? ⟨w.heap.size + 1 + 1, 1, none⟩ = some (.int .i64 d3))) (by kernel_rfl) (X3.all (HB.x3 FS.out HS.out)) (fun hHeld => ?_)
                        refine wpAnyH_take (i := 0) (v := _) rfl (by kernel_rfl) (by kernel_rfl) (by kernel_rfl) (fun _ _ _ h => h) (Or.inl ⟨by rfl, by intro w hSw; (try dsimp only at hSw); go_simp; try (with_reducible rfl)⟩) (by assumption) ?_
                        try simp only [Act.put, List.setIfInBounds_toArray, List.set_cons_zero, List.set_cons_succ]
                        refine wpAnyH_take (i := 1) (v := _) rfl (by kernel_rfl) (by kernel_rfl) (by kernel_rfl) (fun _ _ _ h => h) (Or.inl ⟨by rfl, by intro w hSw; (try dsimp only at hSw); go_simp; try (with_reducible rfl)⟩) (by assumption) ?_
                        try simp only [Act.put, List.setIfInBounds_toArray, List.set_cons_zero, List.set_cons_succ]
                        refine wpAnyH_take (i := 2) (v := _) rfl (by kernel_rfl) (by kernel_rfl) (by kernel_rfl) (fun _ _ _ h => h) (Or.inl ⟨by rfl, by intro w hSw; (try dsimp only at hSw); go_simp; try (with_reducible rfl)⟩) (by assumption) ?_
                        try simp only [Act.put, List.setIfInBounds_toArray, List.set_cons_zero, List.set_cons_succ]
                        refine wpAnyH_ready (rs := [3]) (by kernel_rfl) (by simp) ?_
                        refine AllReadyH.cons rfl (fun K hK => ?_) AllReadyH.nil
                        go_simp
                        go_at_call 32
                        with_reducible refine Calls.mono (C9.out _ _ (HE.cell (HB.he FS.out))) ?_
                        rintro r wq0 ⟨rfl, hb⟩
                        have F0 := Lib.hid (HB.kq FS.out hb)
                        clear hb
                        refine hK.out _ _ (X3.all (HB.x3 F0.out HS.out)) (fun hHeld => ?_)
                        clear hK K
                        try simp only [Act.put, List.setIfInBounds_toArray, List.set_cons_zero, List.set_cons_succ]
                        refine wpAnyH_ready (rs := [4]) (by kernel_rfl) (by simp) ?_
                        refine AllReadyH.cons rfl (fun K hK => ?_) AllReadyH.nil
                        go_simp
                        go_at_call 33
                        with_reducible refine Calls.mono (C10.out _ _ (HE.cell (HB.he F0.out))) ?_
                        rintro r wq1 ⟨rfl, hb⟩
                        have F1 := Lib.hid (HB.kq F0.out hb)
                        clear hb
                        refine hK.out _ _ (X3.all (HB.x3 F1.out HS.out)) (fun hHeld => ?_)
                        clear hK K
                        try simp only [Act.put, List.setIfInBounds_toArray, List.set_cons_zero, List.set_cons_succ]
                        refine wpAnyH_ready (rs := [5]) (by kernel_rfl) (by simp) ?_
                        refine AllReadyH.cons rfl (fun K hK => ?_) AllReadyH.nil
                        obtain ⟨_, _, _, _⟩ := HB.cells F1.out
                        go_simp
                        refine hK.out _ _ (X3.all (HB.x3 (HB.put F1.out) HS.out)) (fun hHeld => ?_)
                        clear hK K
                        try simp only [Act.put, List.setIfInBounds_toArray, List.set_cons_zero, List.set_cons_succ]
                        refine wpAnyH_done (by kernel_rfl) ?_ _
                        refine NoPanic.normal ?_
                        go_wp2
                        go_meet
                        exact (HB.put F1.out)
                    case rest =>
                      have D5 := Lib.hid (HB.two hcut NL.out)
                      clear hcut B1 HS NL C9 C10
                      go_upto_region 29 with fail
                      have B1 := HBk.mk D5.out.right
                      have NL := Lib.hid D5.out.np
                      clear D5
                      have HS := Lib.hid (show ∀ x ∈ (L3 w.heap.size n1 d1 n2 d2 n3 d3), x ∈ ((gl, #[.int .i64 l5, .int .i64 l6], 23) :: (L3 w.heap.size n1 d1 n2 d2 n3 d3)) from fun x h => List.mem_cons_of_mem _ h)
                      go_cut [] (fun wx => HB w g s13 gr (.int .i64 r5) (.int .i64 r6) ((gl, #[.int .i64 l5, .int .i64 l6], 23) :: (L3 w.heap.size n1 d1 n2 d2 n3 d3)) wx)
                      case first =>
                        as_aux_lemma =>
                          clear H30 HT
                          refine wp_region_noPanic ?_
                          have FS := Lib.hid (HB.drew B1.out)
                          refine wp_region_held_drew (S := (fun V => X3 w g n1 d1 n2 d2 n3 d3 V ∧ V.cell? ⟨w.heap.size, 0, none⟩ = some (.int .i64 n1) ∧ V.cell? ⟨w.heap.size, 1, none⟩ = some (.int .i64 d1) ∧ V.cell? ⟨w.heap.size + 1, 0, none⟩ = some (.int .i64 n2) ∧ V.cell? ⟨w.heap.size + 1, 1, none⟩ = some (.int .i64 d2) ∧ V.cell? ⟨w.heap.size + 1 + 1, 0, none⟩ = some (.int .i64 n3) ∧ V.cell? ⟨w.heap.size + 1 + 1, 1, none⟩ = some (.int .i64 d3))) (by kernel_rfl) (X3.all (HB.x3 FS.out HS.out)) (fun hHeld => ?_)
                          refine wpAnyH_take (i := 0) (v := _) rfl (by kernel_rfl) (by kernel_rfl) (by kernel_rfl) (fun _ _ _ h => h) (Or.inl ⟨by rfl, by intro w hSw; (try dsimp only at hSw); go_simp; try (with_reducible rfl)⟩) (by assumption) ?_
                          try simp only [Act.put, List.setIfInBounds_toArray, List.set_cons_zero, List.set_cons_succ]
                          refine wpAnyH_take (i := 1) (v := _) rfl (by kernel_rfl) (by kernel_rfl) (by kernel_rfl) (fun _ _ _ h => h) (Or.inl ⟨by rfl, by intro w hSw; (try dsimp only at hSw); go_simp; try (with_reducible rfl)⟩) (by assumption) ?_
                          try simp only [Act.put, List.setIfInBounds_toArray, List.set_cons_zero, List.set_cons_succ]
                          refine wpAnyH_take (i := 3) (v := _) rfl (by kernel_rfl) (by kernel_rfl) (by kernel_rfl) (fun _ _ _ h => h) (Or.inl ⟨by rfl, by intro w hSw; (try dsimp only at hSw); go_simp; try (with_reducible rfl)⟩) (by assumption) ?_
                          try simp only [Act.put, List.setIfInBounds_toArray, List.set_cons_zero, List.set_cons_succ]
                          refine wpAnyH_take (i := 4) (v := _) rfl (by kernel_rfl) (by kernel_rfl) (by kernel_rfl) (fun _ _ _ h => h) (Or.inl ⟨by rfl, by intro w hSw; (try dsimp only at hSw); go_simp; try (with_reducible rfl)⟩) (by assumption) ?_
                          try simp only [Act.put, List.setIfInBounds_toArray, List.set_cons_zero, List.set_cons_succ]
                          refine wpAnyH_ready (rs := [2]) (by kernel_rfl) (by simp) ?_
                          refine AllReadyH.cons rfl (fun K hK => ?_) AllReadyH.nil
                          go_simp
                          go_at_call 33
                          with_reducible refine Calls.mono (C11.out _ _ (HE.cell (HB.he FS.out))) ?_
                          rintro r wq0 ⟨rfl, hb⟩
                          have F0 := Lib.hid (HB.kq FS.out hb)
                          clear hb
                          refine hK.out _ _ (X3.all (HB.x3 F0.out HS.out)) (fun hHeld => ?_)
                          clear hK K
                          try simp only [Act.put, List.setIfInBounds_toArray, List.set_cons_zero, List.set_cons_succ]
                          refine wpAnyH_ready (rs := [5]) (by kernel_rfl) (by simp) ?_
                          refine AllReadyH.cons rfl (fun K hK => ?_) AllReadyH.nil
                          go_simp
                          go_at_call 33
                          with_reducible refine Calls.mono (C12.out _ _ (HE.cell (HB.he F0.out))) ?_
                          rintro r wq1 ⟨rfl, hb⟩
                          have F1 := Lib.hid (HB.kq F0.out hb)
                          clear hb
                          refine hK.out _ _ (X3.all (HB.x3 F1.out HS.out)) (fun hHeld => ?_)
                          clear hK K
                          try simp only [Act.put, List.setIfInBounds_toArray, List.set_cons_zero, List.set_cons_succ]
                          refine wpAnyH_ready (rs := [6]) (by kernel_rfl) (by simp) ?_
                          refine AllReadyH.cons rfl (fun K hK => ?_) AllReadyH.nil
                          go_simp
                          go_at_call 32
                          with_reducible refine Calls.mono (C13.out _ _ (HE.cell (HB.he F1.out))) ?_
                          rintro r wq2 ⟨rfl, hb⟩
                          have F2 := Lib.hid (HB.kq F1.out hb)
                          clear hb
                          refine hK.out _ _ (X3.all (HB.x3 F2.out HS.out)) (fun hHeld => ?_)
                          clear hK K
                          try simp only [Act.put, List.setIfInBounds_toArray, List.set_cons_zero, List.set_cons_succ]
                          refine wpAnyH_ready (rs := [7]) (by kernel_rfl) (by simp) ?_
                          refine AllReadyH.cons rfl (fun K hK => ?_) AllReadyH.nil
                          obtain ⟨_, _, _, _⟩ := HB.cells F2.out
                          go_simp
                          refine hK.out _ _ (X3.all (HB.x3 (HB.put F2.out) HS.out)) (fun hHeld => ?_)
                          clear hK K
                          try simp only [Act.put, List.setIfInBounds_toArray, List.set_cons_zero, List.set_cons_succ]
                          refine wpAnyH_done (by kernel_rfl) ?_ _
                          refine NoPanic.normal ?_
                          go_wp2
                          go_meet
                          exact (HB.put F2.out)
                      case rest =>
                        have D6 := Lib.hid (HB.two hcut NL.out)
                        clear hcut B1 HS NL C11 C12 C13
                        have D6 := Lib.hid D6.out.swap
                        go_upto_region 30 with fail
                        obtain ⟨⟨_, _, _, _⟩, ⟨_, _, _, _⟩, _, _⟩ := D6.out.cells
                        by_cases hs : s13 = 0
                        · obtain ⟨hl, hr⟩ := H30.out hs
                          subst hs hl hr
                          go_wp2_with fail
                          with_reducible refine (awake_any _ (HT.out.below D6.out.he.has.b)).mono ?_
                          rintro e w9 ⟨rfl, hb⟩
                          have T9 := Lib.hid (D6.out.he.step hb)
                          go_wp2
                          go_ret
                          exact ⟨rfl, T9.out.has.b⟩
                        · go_wp2_with fail
                          with_reducible refine (awake_any _ (HT.out.below D6.out.he.has.b)).mono ?_
                          rintro e w9 ⟨rfl, hb⟩
                          have T9 := Lib.hid (D6.out.he.step hb)
                          go_wp2
                          go_ret
                          exact ⟨rfl, T9.out.has.b⟩
set_option maxHeartbeats 4000000 in
set_option maxRecDepth 100000 in
theorem flaw_out (n1 d1 n2 d2 n3 d3 c1 c2 c3 : Int) (h : (¬ c1 = 0) ∨ (c1 = 0 ∧ ¬ c2 = 0) ∨ (c1 = 0 ∧ c2 = 0 ∧ ¬ c3 = 0))
    (K1 : Hid (∀ w : World, Calls Tryd.prog 14 #[.agg #[.int .i64 n1, .int .i64 d1]] w fun e w' => e = .returned (.int .i64 c1) ∧ Below w.heap.size w w'))
    (K2 : Hid (∀ w : World, Calls Tryd.prog 14 #[.agg #[.int .i64 n2, .int .i64 d2]] w fun e w' => e = .returned (.int .i64 c2) ∧ Below w.heap.size w w'))
    (K3 : Hid (∀ w : World, Calls Tryd.prog 14 #[.agg #[.int .i64 n3, .int .i64 d3]] w fun e w' => e = .returned (.int .i64 c3) ∧ Below w.heap.size w w'))
    (w : World) (ht : T10 w) :
    Calls Tryd.prog 7 #[.agg #[.int .i64 n1, .int .i64 d1], .agg #[.int .i64 n2, .int .i64 d2], .agg #[.int .i64 n3, .int .i64 d3]] w fun e w' => e = .returned (.bool true) ∧ Below w.heap.size w w' := by
  have HT := Lib.hid ht
  clear ht
  have T0 := Lib.hid (start3f w n1 d1 n2 d2 n3 d3)
  rcases h with k1 | ⟨rfl, k1⟩ | ⟨rfl, rfl, k1⟩
  · go_enter Tryd.func7, Tryd.ntmps7
    go_wp2_with fail
    with_reducible refine (K1.out _).mono ?_
    rintro e w1 ⟨rfl, hb⟩
    have T1 := Lib.hid (T0.out.step hb)
    clear hb T0
    go_wp2_with fail
    with_reducible refine (awake_any _ (HT.out.below (Has.b T1.out))).mono ?_
    rintro e w9 ⟨rfl, hb⟩
    have T9 := Lib.hid (T1.out.step hb)
    clear hb T1
    go_wp2
    go_ret
    exact ⟨rfl, Has.b T9.out⟩
  · go_enter Tryd.func7, Tryd.ntmps7
    go_wp2_with fail
    with_reducible refine (K1.out _).mono ?_
    rintro e w1 ⟨rfl, hb⟩
    have T1 := Lib.hid (T0.out.step hb)
    clear hb T0
    obtain ⟨v0, v1⟩ := cells2 (T1.out.row (b := w.heap.size + 1) (cs := #[.int .i64 n2, .int .i64 d2]) (t := 23) (by simp))
    go_wp2_with fail
    with_reducible refine (K2.out _).mono ?_
    rintro e w2 ⟨rfl, hb⟩
    have T2 := Lib.hid (T1.out.step hb)
    clear hb T1 v0 v1
    go_wp2_with fail
    with_reducible refine (awake_any _ (HT.out.below (Has.b T2.out))).mono ?_
    rintro e w9 ⟨rfl, hb⟩
    have T9 := Lib.hid (T2.out.step hb)
    clear hb T2
    go_wp2
    go_ret
    exact ⟨rfl, Has.b T9.out⟩
  · go_enter Tryd.func7, Tryd.ntmps7
    go_wp2_with fail
    with_reducible refine (K1.out _).mono ?_
    rintro e w1 ⟨rfl, hb⟩
    have T1 := Lib.hid (T0.out.step hb)
    clear hb T0
    obtain ⟨v0, v1⟩ := cells2 (T1.out.row (b := w.heap.size + 1) (cs := #[.int .i64 n2, .int .i64 d2]) (t := 23) (by simp))
    go_wp2_with fail
    with_reducible refine (K2.out _).mono ?_
    rintro e w2 ⟨rfl, hb⟩
    have T2 := Lib.hid (T1.out.step hb)
    clear hb T1 v0 v1
    obtain ⟨z0, z1⟩ := cells2 (T2.out.row (b := w.heap.size + 1 + 1) (cs := #[.int .i64 n3, .int .i64 d3]) (t := 23) (by simp))
    go_wp2_with fail
    with_reducible refine (K3.out _).mono ?_
    rintro e w3 ⟨rfl, hb⟩
    have T3 := Lib.hid (T2.out.step hb)
    clear hb T2 z0 z1
    go_wp2_with fail
    with_reducible refine (awake_any _ (HT.out.below (Has.b T3.out))).mono ?_
    rintro e w9 ⟨rfl, hb⟩
    have T9 := Lib.hid (T3.out.step hb)
    clear hb T3
    go_wp2
    go_ret
    exact ⟨rfl, Has.b T9.out⟩
theorem flaw_walk (n1 d1 : Int) (i1 : inI n1) (j1 : inI d1) (n2 d2 : Int) (i2 : inI n2) (j2 : inI d2) (n3 d3 : Int) (i3 : inI n3) (j3 : inI d3) (w : World) (ht : T10 w) :
    Calls Tryd.prog 7 #[.agg #[.int .i64 n1, .int .i64 d1], .agg #[.int .i64 n2, .int .i64 d2], .agg #[.int .i64 n3, .int .i64 d3]] w fun e w' => e = .returned (.bool true) ∧ Below w.heap.size w w' := by
  have KK : ∀ n d : Int, inI n → inI d → ∃ c : Int, (∀ w : World, Calls Tryd.prog 14 #[.agg #[.int .i64 n, .int .i64 d]] w fun e w' => e = .returned (.int .i64 c) ∧ Below w.heap.size w w') ∧ (c = 0 ↔ Rat.chk n d) := by
    intro n d i j
    by_cases h : Rat.chk n d
    · obtain ⟨D, rfl, h⟩ := Rat.chk_nat h
      exact ⟨0, fun w => rCheck_yes n D h w, ⟨fun _ => h, fun _ => rfl⟩⟩
    · exact ⟨1, fun w => rCheck_no n d i j h w, ⟨fun h => (by cases h), fun h2 => absurd h2 h⟩⟩
  obtain ⟨c1, K1, e1⟩ := KK n1 d1 i1 j1
  obtain ⟨c2, K2, e2⟩ := KK n2 d2 i2 j2
  obtain ⟨c3, K3, e3⟩ := KK n3 d3 i3 j3
  by_cases hc : c1 = 0 ∧ c2 = 0 ∧ c3 = 0
  · obtain ⟨rfl, rfl, rfl⟩ := hc
    have VX : ∃ X, Val n1 d1 X := by
      obtain ⟨D, rfl, h⟩ := Rat.chk_nat (e1.1 rfl)
      exact ⟨_, D, rfl, h, rfl⟩
    have VY : ∃ Y, Val n2 d2 Y ∧ (¬ n2 = 0 → Y ≠ 0) := by
      obtain ⟨D, rfl, h⟩ := Rat.chk_nat (e2.1 rfl)
      refine ⟨_, ⟨D, rfl, h, rfl⟩, fun h0 hz => h0 ?_⟩
      have v := (Rat.chk_valid h).num
      rw [hz] at v
      exact v.symm
    have VZ : ∃ Z, Val n3 d3 Z := by
      obtain ⟨D, rfl, h⟩ := Rat.chk_nat (e3.1 rfl)
      exact ⟨_, D, rfl, h, rfl⟩
    obtain ⟨X, vx⟩ := VX
    obtain ⟨Y, vy, y0⟩ := VY
    obtain ⟨Z, vz⟩ := VZ
    have AX := fun w => add_any n1 d1 n2 d2 i1 j1 i2 j2 w
    have AY := fun w => add_any n2 d2 n1 d1 i2 j2 i1 j1 w
    have MX := fun w => mul_any n1 d1 n2 d2 i1 j1 i2 j2 w
    have MY := fun w => mul_any n2 d2 n1 d1 i2 j2 i1 j1 w
    rw [opT_out] at AX MX
    rw [opT_out, opT_comm (fun X Y => Rat.add_comm X Y)] at AY
    rw [opT_out, opT_comm (fun X Y => Rat.mul_comm X Y)] at MY
    have AI := opT_in (· + ·) n1 d1 n2 d2
    have MI := opT_in (· * ·) n1 d1 n2 d2
    have AV := opT_ok (q := (· + ·)) vx vy
    have MV := opT_ok (q := (· * ·)) vx vy
    generalize opT (· + ·) n1 d1 n2 d2 = ra at *
    generalize opT (· * ·) n1 d1 n2 d2 = rm at *
    have SB : ∀ w : World, ra.2.2 = 0 → Calls Tryd.prog 22 #[.agg #[.int .i64 ra.1, .int .i64 ra.2.1], .agg #[.int .i64 n2, .int .i64 d2]] w fun r w' => r = .returned (.tuple #[.agg #[.int .i64 n1, .int .i64 d1], .int .i64 0]) ∧ Below w.heap.size w w' := fun w h => by
      have S := sub_any ra.1 ra.2.1 n2 d2 AI.1 AI.2 i2 j2 w
      rw [opT_out, opT_val (q := (· - ·)) (AV h) vy (Rat.add_sub_cancel) vx] at S
      exact S
    have DV : ∀ w : World, rm.2.2 = 0 → ¬ n2 = 0 → Calls Tryd.prog 26 #[.agg #[.int .i64 rm.1, .int .i64 rm.2.1], .agg #[.int .i64 n2, .int .i64 d2]] w fun r w' => r = .returned (.tuple #[.agg #[.int .i64 n1, .int .i64 d1], .int .i64 0]) ∧ Below w.heap.size w w' := fun w h h0 => by
      have S := div_any rm.1 rm.2.1 n2 d2 MI.1 MI.2 i2 j2 w
      unfold Rat.divOut at S
      rw [if_neg (fun x => h0 x.2.2), opT_out, opT_val (q := (· / ·)) (MV h) vy (Rat.mul_div_cancel (y0 h0)) vx] at S
      exact S
    obtain ⟨p1, hp1⟩ : ∃ p, stT (· + ·) n1 d1 n2 d2 0 = p := ⟨_, rfl⟩
    have I1 := stT_in hp1
    obtain ⟨p2, hp2⟩ : ∃ p, stT (· + ·) p1.1 p1.2.1 n3 d3 p1.2.2 = p := ⟨_, rfl⟩
    obtain ⟨p3, hp3⟩ : ∃ p, stT (· + ·) n2 d2 n3 d3 p2.2.2 = p := ⟨_, rfl⟩
    have I3 := stT_in hp3
    obtain ⟨p4, hp4⟩ : ∃ p, stT (· + ·) n1 d1 p3.1 p3.2.1 p3.2.2 = p := ⟨_, rfl⟩
    obtain ⟨p5, hp5⟩ : ∃ p, stT (· * ·) n1 d1 n2 d2 0 = p := ⟨_, rfl⟩
    have I5 := stT_in hp5
    obtain ⟨p6, hp6⟩ : ∃ p, stT (· * ·) p5.1 p5.2.1 n3 d3 p5.2.2 = p := ⟨_, rfl⟩
    obtain ⟨p7, hp7⟩ : ∃ p, stT (· * ·) n2 d2 n3 d3 p6.2.2 = p := ⟨_, rfl⟩
    have I7 := stT_in hp7
    obtain ⟨p8, hp8⟩ : ∃ p, stT (· * ·) n1 d1 p7.1 p7.2.1 p7.2.2 = p := ⟨_, rfl⟩
    obtain ⟨p9, hp9⟩ : ∃ p, stT (· + ·) n2 d2 n3 d3 0 = p := ⟨_, rfl⟩
    have I9 := stT_in hp9
    obtain ⟨p10, hp10⟩ : ∃ p, stT (· * ·) n1 d1 p9.1 p9.2.1 p9.2.2 = p := ⟨_, rfl⟩
    obtain ⟨p11, hp11⟩ : ∃ p, stT (· * ·) n1 d1 n2 d2 p10.2.2 = p := ⟨_, rfl⟩
    have I11 := stT_in hp11
    obtain ⟨p12, hp12⟩ : ∃ p, stT (· * ·) n1 d1 n3 d3 p11.2.2 = p := ⟨_, rfl⟩
    have I12 := stT_in hp12
    obtain ⟨p13, hp13⟩ : ∃ p, stT (· + ·) p11.1 p11.2.1 p12.1 p12.2.1 p12.2.2 = p := ⟨_, rfl⟩
    refine flaw_a n1 d1 n2 d2 n3 d3 ra.1 ra.2.1 ra.2.2 rm.1 rm.2.1 rm.2.2 p2.1 p2.2.1 p6.1 p6.2.1 p10.1 p10.2.1 p1.1 p1.2.1 p5.1 p5.2.1 p9.1 p9.2.1 p3.1 p3.2.1 p7.1 p7.2.1
      p4.1 p4.2.1 p8.1 p8.2.1 p13.1 p13.2.1 p1.2.2 p10.2.2 p11.2.2 p12.2.2 p13.2.2 p2.2.2 p3.2.2 p4.2.2 p5.2.2 p6.2.2 p7.2.2 p8.2.2 p9.2.2 p11.1 p11.2.1 p12.1 p12.2.1 ?_ ?_ ?_
      (csum i1 j1 i2 j2 hp1) (csum I1.1 I1.2 i3 j3 hp2) (csum i2 j2 i3 j3 hp3) (csum i1 j1 I3.1 I3.2 hp4)
      (cproduct i1 j1 i2 j2 hp5) (cproduct I5.1 I5.2 i3 j3 hp6) (cproduct i2 j2 i3 j3 hp7) (cproduct i1 j1 I7.1 I7.2 hp8)
      (csum i2 j2 i3 j3 hp9) (cproduct i1 j1 I9.1 I9.2 hp10) (cproduct i1 j1 i2 j2 hp11) (cproduct i1 j1 i3 j3 hp12) (csum I11.1 I11.2 I12.1 I12.2 hp13)
      (Lib.hid K1) (Lib.hid K2) (Lib.hid K3) (Lib.hid AX) (Lib.hid AY) (Lib.hid MX) (Lib.hid MY) (Lib.hid SB) (Lib.hid DV) w ht
    · intro h
      have q1 := stT_ok hp1 (fun _ => vx) (fun _ => vy)
      have q2 := stT_ok hp2 (fun h => (q1 h).2) (fun _ => vz)
      have q3 := stT_ok hp3 (fun _ => vy) (fun _ => vz)
      have q4 := stT_ok hp4 (fun _ => vx) (fun h => (q3 h).2)
      obtain ⟨h3, v4⟩ := q4 h
      obtain ⟨h2, v3⟩ := q3 h3
      have v2 := (q2 h2).2
      have ha : X + Y + Z = X + (Y + Z) := Rat.add_assoc X Y Z
      exact Val.uniq v2 (by rw [ha]; exact v4)
    · intro h
      have q1 := stT_ok hp5 (fun _ => vx) (fun _ => vy)
      have q2 := stT_ok hp6 (fun h => (q1 h).2) (fun _ => vz)
      have q3 := stT_ok hp7 (fun _ => vy) (fun _ => vz)
      have q4 := stT_ok hp8 (fun _ => vx) (fun h => (q3 h).2)
      obtain ⟨h3, v4⟩ := q4 h
      obtain ⟨h2, v3⟩ := q3 h3
      have v2 := (q2 h2).2
      have ha : X * Y * Z = X * (Y * Z) := Rat.mul_assoc X Y Z
      exact Val.uniq v2 (by rw [ha]; exact v4)
    · intro h
      have q1 := stT_ok hp9 (fun _ => vy) (fun _ => vz)
      have q2 := stT_ok hp10 (fun _ => vx) (fun h => (q1 h).2)
      have q3 := stT_ok hp11 (fun _ => vx) (fun _ => vy)
      have q4 := stT_ok hp12 (fun _ => vx) (fun _ => vz)
      have q5 := stT_ok hp13 (fun h => (q3 (q4 h).1).2) (fun h => (q4 h).2)
      obtain ⟨h4, v5⟩ := q5 h
      obtain ⟨h3, v4⟩ := q4 h4
      obtain ⟨h2, v3⟩ := q3 h3
      have v2 := (q2 h2).2
      have ha : X * (Y + Z) = X * Y + X * Z := Rat.mul_add X Y Z
      exact Val.uniq v2 (by rw [ha]; exact v5)
  · exact flaw_out n1 d1 n2 d2 n3 d3 c1 c2 c3 (by omega) (Lib.hid K1) (Lib.hid K2) (Lib.hid K3) w ht
end Go.Proofs.YtbhlpcomgfmodaaDoor.Pro
