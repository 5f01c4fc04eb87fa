/- The program's Add and Mul: what their blocks hold. -/
import Derived.Test.YtbhlpcomgfmodaaDoorPM
import Derived.Test.YtbhlpcomgfmodaaDoorPC
set_option linter.unusedVariables false
set_option linter.unusedSimpArgs false
namespace Go.Proofs.YtbhlpcomgfmodaaDoor.Pro
open Go.RowKit

/-- Two fractions in their blocks, the result's block and the error's. -/
structure Q4 (w : World) (n1 d1 n2 d2 : Int) (V : World) : Prop where
  has : ∃ (r1 r2 e1 : Value), Has w [(w.heap.size, #[.int .i64 n1, .int .i64 d1], 23), (w.heap.size + 1, #[.int .i64 n2, .int .i64 d2], 23), (w.heap.size + 1 + 1, #[r1, r2], 23), (w.heap.size + 1 + 1 + 1, #[e1], 24)] V
/-- The same, the last two told. -/
structure R4 (w : World) (n1 d1 n2 d2 r1 r2 e1 : Int) (V : World) : Prop where
  has : Has w [(w.heap.size, #[.int .i64 n1, .int .i64 d1], 23), (w.heap.size + 1, #[.int .i64 n2, .int .i64 d2], 23), (w.heap.size + 1 + 1, #[.int .i64 r1, .int .i64 r2], 23), (w.heap.size + 1 + 1 + 1, #[.int .i64 e1], 24)] V
theorem R4.start (w : World) (n1 d1 n2 d2 : Int) : R4 w n1 d1 n2 d2 0 0 0 ((((w.alloc (.cells #[.int .i64 n1, .int .i64 d1] 23)).alloc (.cells #[.int .i64 n2, .int .i64 d2] 23)).alloc (.cells #[.int .i64 0, .int .i64 0] 23)).alloc (.cells #[.int .i64 0] 24)) := by
  have h := ((((Has.start w).alloc #[.int .i64 n1, .int .i64 d1] 23).alloc #[.int .i64 n2, .int .i64 d2] 23).alloc #[.int .i64 0, .int .i64 0] 23).alloc #[.int .i64 0] 24
  simp only [World.size_alloc] at h
  exact ⟨h.sub (by simp)⟩
theorem R4.step {w V V2 : World} {n1 d1 n2 d2 r1 r2 e1 : Int} (hb : Below V.heap.size V V2) (h : R4 w n1 d1 n2 d2 r1 r2 e1 V) : R4 w n1 d1 n2 d2 r1 r2 e1 V2 := ⟨h.has.step hb⟩
theorem R4.drew {w V : World} {n1 d1 n2 d2 r1 r2 e1 : Int} (h : R4 w n1 d1 n2 d2 r1 r2 e1 V) : R4 w n1 d1 n2 d2 r1 r2 e1 V.drew := ⟨h.has.drew⟩
theorem R4.q {w V : World} {n1 d1 n2 d2 r1 r2 e1 : Int} (h : R4 w n1 d1 n2 d2 r1 r2 e1 V) : Q4 w n1 d1 n2 d2 V := ⟨_, _, _, h.has⟩
theorem R4.rowR {w V : World} {n1 d1 n2 d2 r1 r2 e1 : Int} (h : R4 w n1 d1 n2 d2 r1 r2 e1 V) : V.heap[w.heap.size + 1 + 1]? = some (.cells #[.int .i64 r1, .int .i64 r2] 23 (0, 0)) := h.has.row (by simp)
theorem R4.rowE {w V : World} {n1 d1 n2 d2 r1 r2 e1 : Int} (h : R4 w n1 d1 n2 d2 r1 r2 e1 V) : V.heap[w.heap.size + 1 + 1 + 1]? = some (.cells #[.int .i64 e1] 24 (0, 0)) := h.has.row (by simp)
theorem Has.setR4 {w V : World} {a b c : Array Value} {x y : Value} (u v : Value) (h : Has w [(w.heap.size, a, 23), (w.heap.size + 1, b, 23), (w.heap.size + 1 + 1, #[x, y], 23), (w.heap.size + 1 + 1 + 1, c, 24)] V) :
    Has w [(w.heap.size, a, 23), (w.heap.size + 1, b, 23), (w.heap.size + 1 + 1, #[u, v], 23), (w.heap.size + 1 + 1 + 1, c, 24)] ((V.setCell ⟨w.heap.size + 1 + 1, 0, none⟩ u).setCell ⟨w.heap.size + 1 + 1, 1, none⟩ v) := by
  have h1 : Has w [(w.heap.size + 1 + 1, #[x, y], 23), (w.heap.size, a, 23), (w.heap.size + 1, b, 23), (w.heap.size + 1 + 1 + 1, c, 24)] V := h.sub (by simp)
  have hne : ∀ x ∈ [(w.heap.size, a, (23 : TypeId)), (w.heap.size + 1, b, 23), (w.heap.size + 1 + 1 + 1, c, 24)], x.1 ≠ w.heap.size + 1 + 1 := by simp; omega
  exact ((h1.set hne 0 u).set hne 1 v).sub (by simp)
theorem Has.setE4 {w V : World} {a b c : Array Value} {x : Value} (u : Value) (h : Has w [(w.heap.size, a, 23), (w.heap.size + 1, b, 23), (w.heap.size + 1 + 1, c, 23), (w.heap.size + 1 + 1 + 1, #[x], 24)] V) :
    Has w [(w.heap.size, a, 23), (w.heap.size + 1, b, 23), (w.heap.size + 1 + 1, c, 23), (w.heap.size + 1 + 1 + 1, #[u], 24)] (V.setCell ⟨w.heap.size + 1 + 1 + 1, 0, none⟩ u) := by
  have h1 : Has w [(w.heap.size + 1 + 1 + 1, #[x], 24), (w.heap.size, a, 23), (w.heap.size + 1, b, 23), (w.heap.size + 1 + 1, c, 23)] V := h.sub (by simp)
  have hne : ∀ x ∈ [(w.heap.size, a, (23 : TypeId)), (w.heap.size + 1, b, 23), (w.heap.size + 1 + 1, c, 23)], x.1 ≠ w.heap.size + 1 + 1 + 1 := by simp; omega
  exact (h1.set hne 0 u).sub (by simp)
theorem R4.setR {w V : World} {n1 d1 n2 d2 r1 r2 e1 : Int} (u v : Int) (h : R4 w n1 d1 n2 d2 r1 r2 e1 V) : R4 w n1 d1 n2 d2 u v e1 ((V.setCell ⟨w.heap.size + 1 + 1, 0, none⟩ (.int .i64 u)).setCell ⟨w.heap.size + 1 + 1, 1, none⟩ (.int .i64 v)) := ⟨h.has.setR4 _ _⟩
theorem R4.setE {w V : World} {n1 d1 n2 d2 r1 r2 e1 : Int} (u : Int) (h : R4 w n1 d1 n2 d2 r1 r2 e1 V) : R4 w n1 d1 n2 d2 r1 r2 u (V.setCell ⟨w.heap.size + 1 + 1 + 1, 0, none⟩ (.int .i64 u)) := ⟨h.has.setE4 _⟩
theorem Q4.step {w V V2 : World} {n1 d1 n2 d2 : Int} (hb : Below V.heap.size V V2) (h : Q4 w n1 d1 n2 d2 V) : Q4 w n1 d1 n2 d2 V2 := by
  obtain ⟨r1, r2, e1, h⟩ := h
  exact ⟨r1, r2, e1, h.step hb⟩
theorem Q4.drew {w V : World} {n1 d1 n2 d2 : Int} (h : Q4 w n1 d1 n2 d2 V) : Q4 w n1 d1 n2 d2 V.drew := by
  obtain ⟨r1, r2, e1, h⟩ := h
  exact ⟨r1, r2, e1, h.drew⟩
theorem Q4.setR {w V : World} {n1 d1 n2 d2 : Int} {u v : Value} (h : Q4 w n1 d1 n2 d2 V) : Q4 w n1 d1 n2 d2 ((V.setCell ⟨w.heap.size + 1 + 1, 0, none⟩ u).setCell ⟨w.heap.size + 1 + 1, 1, none⟩ v) := by
  obtain ⟨r1, r2, e1, h⟩ := h
  exact ⟨u, v, e1, h.setR4 _ _⟩
theorem Q4.setE {w V : World} {n1 d1 n2 d2 : Int} {u : Value} (h : Q4 w n1 d1 n2 d2 V) : Q4 w n1 d1 n2 d2 (V.setCell ⟨w.heap.size + 1 + 1 + 1, 0, none⟩ u) := by
  obtain ⟨r1, r2, e1, h⟩ := h
  exact ⟨r1, r2, u, h.setE4 _⟩
structure Q4k (w : World) (n1 d1 n2 d2 : Int) (V : World) : Prop where
  out : Q4 w n1 d1 n2 d2 V
theorem Q4.all {w V : World} {n1 d1 n2 d2 : Int} (h : Q4 w n1 d1 n2 d2 V) :
    Q4 w n1 d1 n2 d2 V ∧ V.cell? ⟨w.heap.size, 0, none⟩ = some (.int .i64 n1) ∧ V.cell? ⟨w.heap.size, 1, none⟩ = some (.int .i64 d1) ∧ V.cell? ⟨w.heap.size + 1, 0, none⟩ = some (.int .i64 n2) ∧ V.cell? ⟨w.heap.size + 1, 1, none⟩ = some (.int .i64 d2) ∧ V.cell? ⟨w.heap.size + 1 + 1, 0, none⟩ = some (held V (w.heap.size + 1 + 1) 0) ∧ V.cell? ⟨w.heap.size + 1 + 1, 1, none⟩ = some (held V (w.heap.size + 1 + 1) 1) ∧ V.cell? ⟨w.heap.size + 1 + 1 + 1, 0, none⟩ = some (held V (w.heap.size + 1 + 1 + 1) 0) ∧ V.frozen? ⟨w.heap.size + 1 + 1, 0, none⟩ = false ∧ V.frozen? ⟨w.heap.size + 1 + 1, 1, none⟩ = false ∧ V.frozen? ⟨w.heap.size + 1 + 1 + 1, 0, none⟩ = false := by
  have h0 := h
  obtain ⟨r1, r2, e1, h⟩ := h
  have ha := cells2 (h.row (b := w.heap.size) (cs := #[.int .i64 n1, .int .i64 d1]) (t := 23) (by simp))
  have hb := cells2 (h.row (b := w.heap.size + 1) (cs := #[.int .i64 n2, .int .i64 d2]) (t := 23) (by simp))
  have rc := h.row (b := w.heap.size + 1 + 1) (cs := #[r1, r2]) (t := 23) (by simp)
  have rd := h.row (b := w.heap.size + 1 + 1 + 1) (cs := #[e1]) (t := 24) (by simp)
  have hc := cells2 rc
  have hd := cells1 rd
  refine ⟨h0, ha.1, ha.2, hb.1, hb.2, ?_, ?_, ?_, (frozen2 rc).1, (frozen2 rc).2, (frozen2 rd).1⟩
  · unfold held; rw [hc.1]; rfl
  · unfold held; rw [hc.2]; rfl
  · unfold held; rw [hd]; rfl
/-- A panic's post does not look at the slots that the region writes. -/
theorem leaves_results {P : Program} {fn : Func} {R : Ending → World → Prop} {t t' : Array Value} (h : results fn t = results fn t') : ∀ (ds : List Deferred) (u : FrameMode) (w : World), Leaves P fn t R ds u w → Leaves P fn t' R ds u w
  | [], u, w, hl => by
    cases u with
    | run => exact hl
    | returning => obtain ⟨v, h1, h2⟩ := hl; exact ⟨v, h ▸ h1, h2⟩
    | panicking c => exact hl
  | d :: ds, u, w, hl => by
    obtain ⟨h1, fv, cap, f, args, h2, h3, h4⟩ := hl
    refine ⟨h1, fv, cap, f, args, h2, h3, h4.mono ?_⟩
    intro e u' w' he
    cases e with
    | returned v => exact leaves_results h ds _ _ he
    | panicked c => exact leaves_results h ds _ _ he
    | outgrown => exact he
theorem panic_put {P : Program} {fn : Func} {R : Ending → World → Prop} {p q : Tmp} {tp tq : TypeId} (hr : fn.results = #[.cell p tp, .cell q tq]) (j : Tmp) (hp : j ≠ p) (hq : j ≠ q) {c : List PanicEntry} {a : Act} {v : Value} {w : World}
    (h : bodyPostD P fn R (.panic c) (a.put (some j) v) w) : bodyPostD P fn R (.panic c) a w := by
  refine leaves_results ?_ _ _ _ h
  simp only [results, hr, Act.put]
  simp [Array.getElem?_setIfInBounds_ne hp, Array.getElem?_setIfInBounds_ne hq]
end Go.Proofs.YtbhlpcomgfmodaaDoor.Pro
