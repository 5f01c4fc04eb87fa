/- spanned: the interval of the four results. -/
import Derived.Test.YtbiegbnncnjnmaaMQf
import Derived.Test.YtbiegbnncnjnmaaMPj
import Derived.Sort.CutIn
set_option linter.unusedVariables false
set_option linter.unusedSimpArgs false
namespace Go.Proofs.Ytbiegbnncnjnmaa.Iv
open Go.RowKit Go.Shelf
open Go.Proofs.Ytbiegbnncnjnmaa.Pro

attribute [local go_sem] Oper.semAt_some

theorem has_own {β : Type} (w : World) (L : List (Nat × Array Value × TypeId)) (B : Nat) (h : w.heap.size ≤ B) : OwnFrom B (fun (_ : β) W => Has w L W) := fun s X Y row hs hg hr =>
  ⟨ownFrom_below (β := β) (Nat.le_refl _) h s X Y row hs.1 hg hr, fun x hx => ⟨row_own (β := Unit) x.1 x.2.2 (fun _ => x.2.1) () X Y row (hs.2 x hx).1 hg (fun r e => (hr r e).2), (hs.2 x hx).2⟩⟩
theorem row_appended {rb b base size k : Nat} {W w1 : World} {t e : TypeId} {v v' : Value} {cs : Array Value} {xs : List Value} {tmp : Obj} (h : W.heap[b]? = some (.cells cs t (0, 0))) (hte : t ≠ e)
    (hr : W.ownsRow base e size v k xs) (hgrow : (W.alloc tmp).grownBy w1 v.ownBlock) (hb : b ≠ rb) : (w1.setCell ⟨rb, 0, none⟩ v').heap[b]? = some (.cells cs t (0, 0)) := by
  have hbl : b < W.heap.size := (Array.getElem?_eq_some_iff.1 h).1
  have hz := hgrow.size
  rw [World.size_alloc] at hz
  have e1 : w1.heap[b]? = (W.alloc tmp).heap[b]? := hgrow.block b (by rw [World.size_alloc]; omega) (row_not h hte hr)
  have e2 : (w1.setCell ⟨rb, 0, none⟩ v').heap[b]? = w1.heap[b]? := (grownBy_setCell' w1 rb v').block b (by omega) (fun e => by cases e; exact hb rfl)
  exact e2.trans (e1.trans ((heap_alloc_old _ _ _ hbl).trans h))
theorem keeps5 (W : World) (a b c d e : Addr) (x y z u v : Value) : KeepsOthers W (((((W.setCell a x).setCell b y).setCell c z).setCell d u).setCell e v) :=
  ((((KeepsOthers.setCell W a x).trans (KeepsOthers.setCell _ b y)).trans (KeepsOthers.setCell _ c z)).trans (KeepsOthers.setCell _ d u)).trans (KeepsOthers.setCell _ e v)
theorem part_err {e0 e1 e2 e3 : Int} {R : Value} {F : Int → Value} (R0 : ¬ e0 = 0 → R = F e0) (R1 : e0 = 0 → ¬ e1 = 0 → R = F e1) (R2 : e0 = 0 → e1 = 0 → ¬ e2 = 0 → R = F e2) (R3 : e0 = 0 → e1 = 0 → e2 = 0 → ¬ e3 = 0 → R = F e3)
    {ini : List Nat} {last : Nat} (h : Part (ini ++ [last])) (hi : ∀ x ∈ ini, sel x e0 e1 e2 e3 = 0) (hl : ¬ sel last e0 e1 e2 e3 = 0) : R = F (sel last e0 e1 e2 e3) := by
  rcases h with h | h | h | h
  · obtain ⟨rfl, h'⟩ := List.append_inj' (s₁ := ini) (s₂ := []) (t₁ := [last]) (t₂ := [0]) h rfl
    cases h'
    exact R0 hl
  · obtain ⟨rfl, h'⟩ := List.append_inj' (s₁ := ini) (s₂ := [0]) (t₁ := [last]) (t₂ := [1]) h rfl
    cases h'
    exact R1 (hi 0 (by simp)) hl
  · obtain ⟨rfl, h'⟩ := List.append_inj' (s₁ := ini) (s₂ := [0, 1]) (t₁ := [last]) (t₂ := [2]) h rfl
    cases h'
    exact R2 (hi 0 (by simp)) (hi 1 (by simp)) hl
  · obtain ⟨rfl, h'⟩ := List.append_inj' (s₁ := ini) (s₂ := [0, 1, 2]) (t₁ := [last]) (t₂ := [3]) h rfl
    cases h'
    exact R3 (hi 0 (by simp)) (hi 1 (by simp)) (hi 2 (by simp)) hl
theorem res_quad {fn : Func} {p q : Tmp} (h : fn.results = #[.cell p 25, .cell q 26]) (tmps : Array Value) (V : World) (g k : Nat) (a b c d x : Int)
    (hp : tmps.getD p undef = .pointer (some ⟨g, 0, none⟩)) (hq : tmps.getD q undef = .pointer (some ⟨k, 0, none⟩)) (hg : V.heap[g]? = some (.cells #[.int .i64 a, .int .i64 b, .int .i64 c, .int .i64 d] 25 (0, 0))) (hk : V.heap[k]? = some (.cells #[.int .i64 x] 26 (0, 0))) :
    (results fn tmps).run Try.prog V = .ok (.tuple #[.agg #[.int .i64 a, .int .i64 b, .int .i64 c, .int .i64 d], .int .i64 x]) V := by
  have hl := run_loadVar_row (P := Try.prog) V g 25 25 _ (0, 0) _ hg Try.underlying25 rfl info25
  have hl2 := load24 hk
  rw [Array.getD_eq_getD_getElem?] at hp hq
  simp only [results, h]
  simp [Sem.run_bind, hp, hq, asAddr, hl, hl2, Result.andThen, Sem.run_pure]
theorem keeps4 (W : World) (a b c d : Addr) (x y z u : Value) : KeepsOthers W ((((W.setCell a x).setCell b y).setCell c z).setCell d u) :=
  (((KeepsOthers.setCell W a x).trans (KeepsOthers.setCell _ b y)).trans (KeepsOthers.setCell _ c z)).trans (KeepsOthers.setCell _ d u)
theorem box4 {W : World} {p rb : Nat} {v : Value} (h : W.cell? ⟨rb, 0, none⟩ = some v) (x y z u : Value) (hne : rb ≠ p) : ((((W.setCell ⟨p, 0, none⟩ x).setCell ⟨p, 1, none⟩ y).setCell ⟨p, 2, none⟩ z).setCell ⟨p, 3, none⟩ u).cell? ⟨rb, 0, none⟩ = some v := by
  rw [World.cell?_setCell_other _ _ _ _ (by simp [hne]), World.cell?_setCell_other _ _ _ _ (by simp [hne]), World.cell?_setCell_other _ _ _ _ (by simp [hne]), World.cell?_setCell_other _ _ _ _ (by simp [hne])]
  exact h
/-- The box of the slice. -/
structure BX (rb g cap : Nat) (V : World) : Prop where
  h : V.cell? ⟨rb, 0, none⟩ = some (.slice (some ⟨g, 0, none⟩) 4 cap)
theorem BX.all {rb g cap : Nat} {V : World} (h : V.cell? ⟨rb, 0, none⟩ = some (.slice (some ⟨g, 0, none⟩) 4 cap)) : BX rb g cap V ∧ V.cell? ⟨rb, 0, none⟩ = some (.slice (some ⟨g, 0, none⟩) 4 cap) := ⟨⟨h⟩, h⟩
/-- What lies there behind the loop. -/
structure SX (w : World) (L : List (Nat × Array Value × TypeId)) (rb g cap D : Nat) (a0 a1 a2 a3 a4 a5 a6 a7 : Value) (V : World) : Prop where
  has : Has w L V
  rb1 : rb < V.heap.size
  box : V.cell? ⟨rb, 0, none⟩ = some (.slice (some ⟨g, 0, none⟩) 4 cap)
  lt : g < V.heap.size
  c0 : V.cell? ⟨g, 0, none⟩ = some a0 ∧ V.cell? ⟨g, 1, none⟩ = some a1
  c1 : V.cell? ⟨g, 2, none⟩ = some a2 ∧ V.cell? ⟨g, 3, none⟩ = some a3
  c2 : V.cell? ⟨g, 4, none⟩ = some a4 ∧ V.cell? ⟨g, 5, none⟩ = some a5
  c3 : V.cell? ⟨g, 6, none⟩ = some a6 ∧ V.cell? ⟨g, 7, none⟩ = some a7
  d : V.heap[D]? = some (.deferred (some []))
theorem SX.step {w V V2 : World} {L : List (Nat × Array Value × TypeId)} {rb g cap D : Nat} {a0 a1 a2 a3 a4 a5 a6 a7 : Value} (h : SX w L rb g cap D a0 a1 a2 a3 a4 a5 a6 a7 V) (hb : Below V.heap.size V V2) : SX w L rb g cap D a0 a1 a2 a3 a4 a5 a6 a7 V2 := by
  have hc : ∀ j, V2.cell? ⟨g, j, none⟩ = V.cell? ⟨g, j, none⟩ := fun j => hb.cell (p := ⟨g, j, none⟩) h.lt
  exact ⟨h.has.step hb, Nat.lt_of_lt_of_le h.rb1 hb.size, (hb.cell (p := ⟨rb, 0, none⟩) h.rb1).trans h.box, Nat.lt_of_lt_of_le h.lt hb.size, ⟨(hc _).trans h.c0.1, (hc _).trans h.c0.2⟩, ⟨(hc _).trans h.c1.1, (hc _).trans h.c1.2⟩, ⟨(hc _).trans h.c2.1, (hc _).trans h.c2.2⟩, ⟨(hc _).trans h.c3.1, (hc _).trans h.c3.2⟩,
    (hb.block D (Array.getElem?_eq_some_iff.1 h.d).1).trans h.d⟩
theorem SX.drew {w V : World} {L : List (Nat × Array Value × TypeId)} {rb g cap D : Nat} {a0 a1 a2 a3 a4 a5 a6 a7 : Value} (h : SX w L rb g cap D a0 a1 a2 a3 a4 a5 a6 a7 V) : SX w L rb g cap D a0 a1 a2 a3 a4 a5 a6 a7 V.drew := ⟨h.has.drew, h.rb1, h.box, h.lt, h.c0, h.c1, h.c2, h.c3, h.d⟩
theorem rowOf_lt {rb base k : Nat} {W : World} {t e : TypeId} {size : Nat} {v : Value} {xs : List Value} (h : Boxed W rb t v) (hr : W.ownsRow base e size v k xs) : rowOf rb W < W.heap.size := by
  rw [rowOf_box h]
  rcases hr.2 with ⟨rfl, _⟩ | ⟨g, cap, cur, rfl, _, hg, _⟩
  · exact Nat.lt_of_le_of_lt (Nat.zero_le _) h.lt
  · exact (Array.getElem?_eq_some_iff.1 hg).1
theorem row4 {W : World} {base g cap : Nat} {e : TypeId} {a0 a1 a2 a3 a4 a5 a6 a7 : Value} (h : W.ownsRow base e 2 (.slice (some ⟨g, 0, none⟩) 4 cap) 4 [a0, a1, a2, a3, a4, a5, a6, a7]) :
    g < W.heap.size ∧ (W.cell? ⟨g, 0, none⟩ = some a0 ∧ W.cell? ⟨g, 1, none⟩ = some a1) ∧ (W.cell? ⟨g, 2, none⟩ = some a2 ∧ W.cell? ⟨g, 3, none⟩ = some a3) ∧ (W.cell? ⟨g, 4, none⟩ = some a4 ∧ W.cell? ⟨g, 5, none⟩ = some a5) ∧ (W.cell? ⟨g, 6, none⟩ = some a6 ∧ W.cell? ⟨g, 7, none⟩ = some a7) := by
  rcases h.2 with ⟨hv, _⟩ | ⟨g', cap', cur, hv, _, hg, _, _, _, ht⟩
  · cases hv
  · cases hv
    have hc : ∀ j, j < 8 → W.cell? ⟨g, j, none⟩ = [a0, a1, a2, a3, a4, a5, a6, a7][j]? := fun j hj => by
      rw [cell_of_row _ _ _ _ _ _ hg, ← ht, List.getElem?_take, if_pos (by omega), Array.getElem?_toList]
    exact ⟨(Array.getElem?_eq_some_iff.1 hg).1, ⟨hc 0 (by omega), hc 1 (by omega)⟩, ⟨hc 2 (by omega), hc 3 (by omega)⟩, ⟨hc 4 (by omega), hc 5 (by omega)⟩, ⟨hc 6 (by omega), hc 7 (by omega)⟩⟩
set_option maxRecDepth 100000 in
set_option maxHeartbeats 4000000 in
theorem span_mul (a b c d p q r s x0 y0 e0 x1 y1 e1 x2 y2 e2 x3 y3 e3 l1 l2 h1 h2 : Int) (R : Value)
    (FC0 : Hid (∀ w : World, Calls Try.prog 70 #[.agg #[.int .i64 a, .int .i64 b], .agg #[.int .i64 p, .int .i64 q]] w fun e w' => e = .returned (.tuple #[.agg #[.int .i64 x0, .int .i64 y0], .int .i64 e0]) ∧ Below w.heap.size w w'))
    (FC1 : Hid (∀ w : World, Calls Try.prog 70 #[.agg #[.int .i64 a, .int .i64 b], .agg #[.int .i64 r, .int .i64 s]] w fun e w' => e = .returned (.tuple #[.agg #[.int .i64 x1, .int .i64 y1], .int .i64 e1]) ∧ Below w.heap.size w w'))
    (FC2 : Hid (∀ w : World, Calls Try.prog 70 #[.agg #[.int .i64 c, .int .i64 d], .agg #[.int .i64 p, .int .i64 q]] w fun e w' => e = .returned (.tuple #[.agg #[.int .i64 x2, .int .i64 y2], .int .i64 e2]) ∧ Below w.heap.size w w'))
    (FC3 : Hid (∀ w : World, Calls Try.prog 70 #[.agg #[.int .i64 c, .int .i64 d], .agg #[.int .i64 r, .int .i64 s]] w fun e w' => e = .returned (.tuple #[.agg #[.int .i64 x3, .int .i64 y3], .int .i64 e3]) ∧ Below w.heap.size w w'))
    (R0 : Hid (¬ e0 = 0 → R = .tuple #[.agg #[.int .i64 0, .int .i64 0, .int .i64 0, .int .i64 0], .int .i64 e0])) (R1 : Hid (e0 = 0 → ¬ e1 = 0 → R = .tuple #[.agg #[.int .i64 0, .int .i64 0, .int .i64 0, .int .i64 0], .int .i64 e1])) (R2 : Hid (e0 = 0 → e1 = 0 → ¬ e2 = 0 → R = .tuple #[.agg #[.int .i64 0, .int .i64 0, .int .i64 0, .int .i64 0], .int .i64 e2])) (R3 : Hid (e0 = 0 → e1 = 0 → e2 = 0 → ¬ e3 = 0 → R = .tuple #[.agg #[.int .i64 0, .int .i64 0, .int .i64 0, .int .i64 0], .int .i64 e3]))
    (R4 : Hid (e0 = 0 → e1 = 0 → e2 = 0 → e3 = 0 → R = .tuple #[.agg #[.int .i64 l1, .int .i64 l2, .int .i64 h1, .int .i64 h2], .int .i64 0]))
    (MN : Hid (∀ (g cap : Nat) (W : World), g < W.heap.size → (W.cell? ⟨g, 0, none⟩ = some (.int .i64 x0) ∧ W.cell? ⟨g, 1, none⟩ = some (.int .i64 y0)) → (W.cell? ⟨g, 2, none⟩ = some (.int .i64 x1) ∧ W.cell? ⟨g, 3, none⟩ = some (.int .i64 y1)) → (W.cell? ⟨g, 4, none⟩ = some (.int .i64 x2) ∧ W.cell? ⟨g, 5, none⟩ = some (.int .i64 y2)) → (W.cell? ⟨g, 6, none⟩ = some (.int .i64 x3) ∧ W.cell? ⟨g, 7, none⟩ = some (.int .i64 y3)) → Calls Try.prog 90 #[.slice (some ⟨g, 0, none⟩) 4 cap, .func (.func 37) #[] #[]] W fun e w' => e = .returned (.agg #[.int .i64 l1, .int .i64 l2]) ∧ Below W.heap.size W w'))
    (MX : Hid (∀ (g cap : Nat) (W : World), g < W.heap.size → (W.cell? ⟨g, 0, none⟩ = some (.int .i64 x0) ∧ W.cell? ⟨g, 1, none⟩ = some (.int .i64 y0)) → (W.cell? ⟨g, 2, none⟩ = some (.int .i64 x1) ∧ W.cell? ⟨g, 3, none⟩ = some (.int .i64 y1)) → (W.cell? ⟨g, 4, none⟩ = some (.int .i64 x2) ∧ W.cell? ⟨g, 5, none⟩ = some (.int .i64 y2)) → (W.cell? ⟨g, 6, none⟩ = some (.int .i64 x3) ∧ W.cell? ⟨g, 7, none⟩ = some (.int .i64 y3)) → Calls Try.prog 91 #[.slice (some ⟨g, 0, none⟩) 4 cap, .func (.func 37) #[] #[]] W fun e w' => e = .returned (.agg #[.int .i64 h1, .int .i64 h2]) ∧ Below W.heap.size W w'))
    (w : World) : CallsIn Fence.wide 3 Try.prog 69 #[.func (.func 70) #[] #[], .agg #[.int .i64 a, .int .i64 b, .int .i64 c, .int .i64 d], .agg #[.int .i64 p, .int .i64 q, .int .i64 r, .int .i64 s]] w fun e W' => e = .returned R ∧ Below w.heap.size w W' := by
  have T0 := Lib.hid (((((((((Has.start w).alloc #[.int .i64 a, .int .i64 b, .int .i64 c, .int .i64 d] 25).alloc #[.int .i64 p, .int .i64 q, .int .i64 r, .int .i64 s] 25).alloc #[.int .i64 0, .int .i64 0, .int .i64 0, .int .i64 0] 25).alloc #[.int .i64 0] 26).alloc #[.slice none 0 0] 43).alloc #[.func (.func 70) #[] #[]] 85).alloc #[.int .i64 a, .int .i64 b, .int .i64 c, .int .i64 d] 25).alloc #[.int .i64 p, .int .i64 q, .int .i64 r, .int .i64 s] 25)
  simp only [World.size_alloc] at T0
  have hz : ((((((((w.alloc (.cells #[.int .i64 a, .int .i64 b, .int .i64 c, .int .i64 d] 25)).alloc (.cells #[.int .i64 p, .int .i64 q, .int .i64 r, .int .i64 s] 25)).alloc (.cells #[.int .i64 0, .int .i64 0, .int .i64 0, .int .i64 0] 25)).alloc (.cells #[.int .i64 0] 26)).alloc (.cells #[.slice none 0 0] 43)).alloc (.cells #[.func (.func 70) #[] #[]] 85)).alloc (.cells #[.int .i64 a, .int .i64 b, .int .i64 c, .int .i64 d] 25)).alloc (.cells #[.int .i64 p, .int .i64 q, .int .i64 r, .int .i64 s] 25)).heap.size = w.heap.size + 8 := by simp only [World.size_alloc]
  refine callsIn_of_wp_marks Try.func69 rfl trivial ?_ rfl
  simp only [Try.ntmps69, List.size_toArray, List.length_cons, List.length_nil, Nat.reduceAdd, Nat.reduceSub, Array.replicate_succ, Array.replicate_zero, List.push_toArray, List.append_toArray, List.nil_append, List.cons_append]
  gi_wp2_with fail
  refine ⟨trivial, ?_⟩
  refine (ofEnds_mul _ a b c d p q r s _).mono ?_
  rintro e w' ⟨rfl, rfl⟩
  gi_wp2_with fail
  generalize (((((((w.alloc (.cells #[.int .i64 a, .int .i64 b, .int .i64 c, .int .i64 d] 25)).alloc (.cells #[.int .i64 p, .int .i64 q, .int .i64 r, .int .i64 s] 25)).alloc (.cells #[.int .i64 0, .int .i64 0, .int .i64 0, .int .i64 0] 25)).alloc (.cells #[.int .i64 0] 26)).alloc (.cells #[.slice none 0 0] 43)).alloc (.cells #[.func (.func 70) #[] #[]] 85)).alloc (.cells #[.int .i64 a, .int .i64 b, .int .i64 c, .int .i64 d] 25)).alloc (.cells #[.int .i64 p, .int .i64 q, .int .i64 r, .int .i64 s] 25) = W0 at *
  have hrb : Boxed W0 (w.heap.size + 1 + 1 + 1 + 1) 43 (.slice none 0 0) := T0.out.row (b := w.heap.size + 1 + 1 + 1 + 1) (cs := #[.slice none 0 0]) (t := 43) (by simp)
  have hro0 : rowOf (w.heap.size + 1 + 1 + 1 + 1) W0 = 0 := by rw [rowOf_box hrb]; rfl
  have S0 : Sta (w.heap.size + 1 + 1 + 1 + 1 + 1) (w.heap.size + 1 + 1 + 1 + 1) (fun _ _ => True) [] [(w.heap.size + 1 + 1 + 1 + 1 + 1, #[.func (.func 70) #[] #[]], 85), (w.heap.size + 1 + 1 + 1 + 1 + 1 + 1, #[.int .i64 a, .int .i64 b, .int .i64 c, .int .i64 d], 25), (w.heap.size + 1 + 1 + 1 + 1 + 1 + 1 + 1, #[.int .i64 p, .int .i64 q, .int .i64 r, .int .i64 s], 25)] W0 := by
    refine ⟨trivial, fun x hx => ⟨(T0.out.2 x (by simp only [List.mem_cons, List.not_mem_nil, or_false] at hx ⊢; rcases hx with h | h | h <;> simp [h])).1, ?_, ?_⟩, by omega, by omega, by omega⟩
    · simp only [List.mem_cons, List.not_mem_nil, or_false] at hx
      rcases hx with rfl | rfl | rfl <;> simp only <;> omega
    · rw [hro0]
      simp only [List.mem_cons, List.not_mem_nil, or_false] at hx
      rcases hx with rfl | rfl | rfl <;> simp only <;> omega
  have TR := Lib.hid (T0.out.sub (M := [(w.heap.size + 1 + 1 + 1, #[.int .i64 0], 26), (w.heap.size + 1 + 1, #[.int .i64 0, .int .i64 0, .int .i64 0, .int .i64 0], 25)]) (by intro x hx; simp only [List.mem_cons, List.not_mem_nil, or_false] at hx ⊢; rcases hx with h | h <;> simp [h]))
  clear T0
  refine wpIn_rangeFunc_ownH rfl (by omega) (gf := 103) (lb := #[.pointer (some ⟨w.heap.size + 1 + 1 + 1 + 1 + 1 + 1, 0, none⟩), .pointer (some ⟨w.heap.size + 1 + 1 + 1 + 1 + 1 + 1 + 1, 0, none⟩), .pointer (some ⟨w.heap.size + 1 + 1 + 1 + 1 + 1, 0, none⟩)]) rfl trivial (enters_of Try.func103 (by kernel_rfl) rfl)
    (stops_mul 2 (by omega) (w.heap.size + 1 + 1 + 1 + 1 + 1) (w.heap.size + 1 + 1 + 1 + 1) (w.heap.size + 1 + 1 + 1 + 1 + 1) (w.heap.size + 1 + 1 + 1 + 1 + 1 + 1) (w.heap.size + 1 + 1 + 1 + 1 + 1 + 1 + 1) a b c d p q r s x0 y0 e0 x1 y1 e1 x2 y2 e2 x3 y3 e3 FC0 FC1 FC2 FC3 W0 S0) (fun h k => h.trans k) (fun W l o o' hl h hc _ => Kept.put W l o o' (by omega) h hc) (Below.refl _ _) (fun _ => rfl)
    (fun pre W => ((∀ x ∈ pre, sel x e0 e1 e2 e3 = 0) ∧ Has w [(w.heap.size + 1 + 1 + 1, #[.int .i64 0], 26), (w.heap.size + 1 + 1, #[.int .i64 0, .int .i64 0, .int .i64 0, .int .i64 0], 25)] W) ∧ ∃ v, Boxed W (w.heap.size + 1 + 1 + 1 + 1) 43 v ∧ W.ownsRow w.heap.size 23 2 v pre.length (flat (fun k => sel k x0 x1 x2 x3) (fun k => sel k y0 y1 y2 y3) pre) ∧ True)
    (fun c pre W => c = .ret ∧ ∃ ini last, pre = ini ++ [last] ∧ (∀ x ∈ ini, sel x e0 e1 e2 e3 = 0) ∧ ¬ sel last e0 e1 e2 e3 = 0 ∧ Has w [(w.heap.size + 1 + 1 + 1, #[.int .i64 (sel last e0 e1 e2 e3)], 26), (w.heap.size + 1 + 1, #[.int .i64 0, .int .i64 0, .int .i64 0, .int .i64 0], 25)] W)
    (OwnFrom.and (fun s A B row h hg hr => ⟨h.1, has_own (β := Unit) w _ _ (by omega) () A B row h.2 hg hr⟩) (Own.from (holdsRow_own _ _ _ _ _ _ _ (fun _ _ => True)) _))
    (fun c s A B row h hg hr => by
      obtain ⟨hc, ini, last, i1, i2, i3, i4⟩ := h
      exact ⟨hc, ini, last, i1, i2, i3, has_own (β := Unit) w _ _ (by omega) () A B row i4 hg hr⟩)
    ⟨⟨by simp, TR.out⟩, _, hrb, World.ownsRow_nil _ _ _ _, trivial⟩
    (fun x a' W => ∃ Bx, w.heap.size + 1 + 1 + 1 + 1 + 1 ≤ Bx ∧ W.heap[Bx]? = some (.cells #[.int .i64 (sel x x0 x1 x2 x3), .int .i64 (sel x y0 y1 y2 y3)] 23 (0, 0)) ∧ a' = { tmps := #[.func (.func 70) #[] #[], .agg #[.int .i64 a, .int .i64 b, .int .i64 c, .int .i64 d], .agg #[.int .i64 p, .int .i64 q, .int .i64 r, .int .i64 s], undef, .pointer (some ⟨w.heap.size, 0, none⟩), .pointer (some ⟨w.heap.size + 1, 0, none⟩), .pointer (some ⟨w.heap.size + 1 + 1, 0, none⟩), .pointer (some ⟨w.heap.size + 1 + 1 + 1, 0, none⟩), .pointer (some ⟨w.heap.size + 1 + 1 + 1 + 1, 0, none⟩), .pointer (some ⟨Bx, 0, none⟩), .int .i64 (sel x e0 e1 e2 e3), .func (.func 70) #[] #[], .agg #[.int .i64 a, .int .i64 b, .int .i64 c, .int .i64 d], .agg #[.int .i64 p, .int .i64 q, .int .i64 r, .int .i64 s], .func (.func 103) #[] #[.pointer (some ⟨w.heap.size + 1 + 1 + 1 + 1 + 1 + 1, 0, none⟩), .pointer (some ⟨w.heap.size + 1 + 1 + 1 + 1 + 1 + 1 + 1, 0, none⟩), .pointer (some ⟨w.heap.size + 1 + 1 + 1 + 1 + 1, 0, none⟩)], .agg #[.int .i64 (sel x x0 x1 x2 x3), .int .i64 (sel x y0 y1 y2 y3)], .int .i64 (sel x e0 e1 e2 e3), undef, undef, undef, undef, undef, undef, undef, undef, undef, undef, undef, undef, undef], defers := [] })
    (fun x a' _ A B row hs hg hr => by
      obtain ⟨Bx, i1, i2, i3⟩ := hs
      exact ⟨Bx, i1, row_own (β := Unit) Bx _ (fun _ => _) () A B row i2 hg (fun r e => (hr r e).2), i3⟩)
    ?assign ?body ?done ?stop
  case assign =>
    rintro l pre x W K ⟨⟨i1, i2⟩, v, i3, i4, _⟩ hK
    have hle := i2.1.size
    gi_wp2
    have hsz : w.heap.size + 1 + 1 + 1 + 1 + 1 ≤ W.heap.size := (Array.getElem?_eq_some_iff.1 i3).1
    refine hK _ _ ((KeepsOthers.alloc _ _).from _) (Kept.alloc _ _ hsz) ⟨⟨i1, has_own (β := Unit) w _ _ (Nat.le_refl _) () W _ none i2 (World.grownBy_alloc W _ none) (fun r e => by cases e)⟩, v, i3.alloc _, i4.alloc _, trivial⟩ ⟨W.heap.size, hsz, heap_alloc_new _ _, rfl⟩
  case body =>
    rintro l pre x a' W hl _ ⟨⟨i1, i2⟩, v, i3, i4, _⟩ ⟨Bx, j1, j2, rfl⟩ hlt
    generalize hE : sel x e0 e1 e2 e3 = ve at *
    generalize hX : sel x x0 x1 x2 x3 = vx at *
    generalize hY : sel x y0 y1 y2 y3 = vy at *
    by_cases he : ve = 0
    · subst he
      obtain ⟨i0, hi, hz0, hz1, hz2⟩ := info_parts infoR
      have hc := i3.cell
      obtain ⟨u0, u1⟩ := cells2 j2
      have hB := i2.1
      have hlw := rowOf_lt i3 i4
      gi_wp2_with (gi_at_builtin; refine wpListIn_append_own_at _ rfl _ _ 43 rfl w.heap.size 23 i0 (.agg #[.int .i64 0, .int .i64 0]) 2 16 Try.underlying43 hi hz0 hz1 hz2 rfl (by decide) _ _ _ rfl (i4.alloc _) ⟨W.heap.size, 0, none⟩ 1 1 [.int .i64 vx, .int .i64 vy] rfl rfl (cell_two_new _ _ _ _) (by simp [Value.oneCell']) (by simp only [maxLen]; omega) (by omega) (by have := hB.size; simp; omega) ?_; intro v' w1 hown' hgrow _ hat; obtain ⟨g', cap', rfl⟩ := ownsRow_succ hown'; obtain ⟨hv1, hv2, hr2, hk2, hb2⟩ := i3.appended (by decide) i4 hB.size (by omega) hown' hgrow; have hc1 := hv1.cell; have hf1 := hv1.frozen)
      refine ⟨hk2.from _, Kept.appended (by omega) i3 hv1 hown' hgrow hat hlw, ⟨⟨fun y hy => ?_, ?_⟩, _, hv2, ?_, trivial⟩⟩
      · rcases List.mem_append.1 hy with h | h
        · exact i1 y h
        · simp only [List.mem_singleton] at h
          subst h
          exact hE
      · refine ⟨hB.trans hb2, fun y hy => ?_⟩
        simp only [List.mem_cons, List.not_mem_nil, or_false] at hy
        rcases hy with rfl | rfl
        · exact ⟨row_appended (i2.row (by simp)) (by dsimp only; decide) i4 hgrow (by simp only; omega), by simp only; omega⟩
        · exact ⟨row_appended (i2.row (by simp)) (by dsimp only; decide) i4 hgrow (by simp only; omega), by simp only; omega⟩
      · rw [List.length_append, flat_snoc]
        simp only [hX, hY]
        exact hr2
    · have heb : (ve != 0) = true := by simp [he]
      obtain ⟨k0, k1, k2, k3, k4⟩ := Has.c4 (g := w.heap.size + 1 + 1) (x := .int .i64 0) (y := .int .i64 0) (z := .int .i64 0) (u := .int .i64 0) (t := 25) i2 (by simp)
      obtain ⟨k5, k6, k7, k8⟩ := Has.f4 (g := w.heap.size + 1 + 1) (cs := #[.int .i64 0, .int .i64 0, .int .i64 0, .int .i64 0]) (t := 25) i2 (by simp)
      have z0 := cells1 (i2.row (b := w.heap.size + 1 + 1 + 1) (cs := #[.int .i64 0]) (t := 26) (by simp))
      have z1 := (frozen2 (i2.row (b := w.heap.size + 1 + 1 + 1) (cs := #[.int .i64 0]) (t := 26) (by simp))).1
      have F1 := Lib.hid (Has.put4 (g := w.heap.size + 1 + 1) (x := .int .i64 0) (y := .int .i64 0) (z := .int .i64 0) (u := .int .i64 0) (t := 25) (M := [(w.heap.size + 1 + 1 + 1, #[.int .i64 0], 26)]) i2 (.int .i64 0) (.int .i64 0) (.int .i64 0) (.int .i64 0) (by simp) (by simp <;> omega))
      have F2 := Lib.hid ((F1.out.sub (M := [(w.heap.size + 1 + 1 + 1, #[.int .i64 0], 26), (w.heap.size + 1 + 1, #[.int .i64 0, .int .i64 0, .int .i64 0, .int .i64 0], 25)]) (by simp)).set (by simp <;> omega) 0 (.int .i64 ve))
      clear F1
      gi_wp2
      exact ⟨(keeps5 W _ _ _ _ _ _ _ _ _ _).from _, rfl, pre, x, rfl, i1, by rw [hE]; exact he, by rw [hE]; exact F2.out⟩
  case done =>
    rintro D ys W hD rfl ⟨⟨i1, i2⟩, v, i3, i4, _⟩ hK
    obtain ⟨g, cap, rfl⟩ := ownsRow_succ (k := 3) i4
    obtain ⟨hg, c0, c1, c2, c3⟩ := row4 i4
    have hR := Lib.hid (R4.out (i1 0 (by simp)) (i1 1 (by simp)) (i1 2 (by simp)) (i1 3 (by simp)))
    have F0 : Hid (SX w [(w.heap.size + 1 + 1 + 1, #[.int .i64 0], 26), (w.heap.size + 1 + 1, #[.int .i64 0, .int .i64 0, .int .i64 0, .int .i64 0], 25)] (w.heap.size + 1 + 1 + 1 + 1) g cap D (.int .i64 x0) (.int .i64 y0) (.int .i64 x1) (.int .i64 y1) (.int .i64 x2) (.int .i64 y2) (.int .i64 x3) (.int .i64 y3) W) := Lib.hid (SX.mk i2 i3.lt i3.cell hg c0 c1 c2 c3 hK)
    clear c0 c1 c2 c3 i1 i2 i4 hK i3 hg
    have TD := Lib.hid F0.out.drew
    gi_upto_region 8 with fail
    refine wpIn_wide.2 ?_
    refine wp_region_noPanic ?_
    refine wp_region_held_drew (S := (fun V => BX (w.heap.size + 1 + 1 + 1 + 1) g cap V ∧ V.cell? ⟨w.heap.size + 1 + 1 + 1 + 1, 0, none⟩ = some (.slice (some ⟨g, 0, none⟩) 4 cap))) (by kernel_rfl) (BX.all TD.out.box) (fun hHeld => ?_)
    refine wpAnyH_take (i := 0) (v := _) rfl (by kernel_rfl) (by kernel_rfl) (by kernel_rfl) (fun _ _ _ h => h) (Or.inl ⟨by rfl, by intro w hSw; (try dsimp only at hSw); go_simp; try (with_reducible rfl)⟩) (by assumption) ?_
    try simp only [Act.put, List.setIfInBounds_toArray, List.set_cons_zero, List.set_cons_succ]
    refine wpAnyH_take (i := 2) (v := _) rfl (by kernel_rfl) (by kernel_rfl) (by kernel_rfl) (fun _ _ _ h => h) (Or.inl ⟨by rfl, by intro w hSw; (try dsimp only at hSw); go_simp; try (with_reducible rfl)⟩) (by assumption) ?_
    try simp only [Act.put, List.setIfInBounds_toArray, List.set_cons_zero, List.set_cons_succ]
    refine wpAnyH_ready (rs := [1]) (by kernel_rfl) (by simp) ?_
    refine AllReadyH.cons rfl (fun K hK => ?_) AllReadyH.nil
    go_simp
    go_at_call 90
    with_reducible refine Calls.mono (MN.out g cap _ TD.out.lt TD.out.c0 TD.out.c1 TD.out.c2 TD.out.c3) ?_
    rintro e w2 ⟨rfl, hb⟩
    have F1 := Lib.hid (TD.out.step hb)
    clear hb
    refine hK.out _ _ (BX.all F1.out.box) (fun hHeld => ?_)
    clear hK K
    try simp only [Act.put, List.setIfInBounds_toArray, List.set_cons_zero, List.set_cons_succ]
    refine wpAnyH_ready (rs := [3]) (by kernel_rfl) (by simp) ?_
    refine AllReadyH.cons rfl (fun K hK => ?_) AllReadyH.nil
    go_simp
    go_at_call 91
    with_reducible refine Calls.mono (MX.out g cap _ F1.out.lt F1.out.c0 F1.out.c1 F1.out.c2 F1.out.c3) ?_
    rintro e w3 ⟨rfl, hb⟩
    have F2 := Lib.hid (F1.out.step hb)
    clear hb
    refine hK.out _ _ (BX.all F2.out.box) (fun hHeld => ?_)
    clear hK K
    try simp only [Act.put, List.setIfInBounds_toArray, List.set_cons_zero, List.set_cons_succ]
    refine wpAnyH_take (i := 4) (v := _) rfl (by kernel_rfl) (by kernel_rfl) (by kernel_rfl) (fun _ _ _ h => h) (Or.inl ⟨by rfl, by intro w hSw; (try dsimp only at hSw); go_simp; try (with_reducible rfl)⟩) (by assumption) ?_
    try simp only [Act.put, List.setIfInBounds_toArray, List.set_cons_zero, List.set_cons_succ]
    refine wpAnyH_ready (rs := [5]) (by kernel_rfl) (by simp) ?_
    refine AllReadyH.cons rfl (fun K hK => ?_) AllReadyH.nil
    obtain ⟨k0, k1, k2, k3, k4⟩ := Has.c4 (g := w.heap.size + 1 + 1) (x := .int .i64 0) (y := .int .i64 0) (z := .int .i64 0) (u := .int .i64 0) (t := 25) F2.out.has (by simp)
    obtain ⟨k5, k6, k7, k8⟩ := Has.f4 (g := w.heap.size + 1 + 1) (cs := #[.int .i64 0, .int .i64 0, .int .i64 0, .int .i64 0]) (t := 25) F2.out.has (by simp)
    go_simp
    have F3 := Lib.hid (Has.put4 (g := w.heap.size + 1 + 1) (x := .int .i64 0) (y := .int .i64 0) (z := .int .i64 0) (u := .int .i64 0) (t := 25) (M := [(w.heap.size + 1 + 1 + 1, #[.int .i64 0], 26)]) F2.out.has (.int .i64 l1) (.int .i64 l2) (.int .i64 h1) (.int .i64 h2) (by simp) (by simp <;> omega))
    have B3 := Lib.hid (box4 (p := w.heap.size + 1 + 1) (rb := w.heap.size + 1 + 1 + 1 + 1) F2.out.box (.int .i64 l1) (.int .i64 l2) (.int .i64 h1) (.int .i64 h2) (by omega))
    have D3 := Lib.hid (KeepsOthers.same (keeps4 w3 ⟨w.heap.size + 1 + 1, 0, none⟩ ⟨w.heap.size + 1 + 1, 1, none⟩ ⟨w.heap.size + 1 + 1, 2, none⟩ ⟨w.heap.size + 1 + 1, 3, none⟩ (.int .i64 l1) (.int .i64 l2) (.int .i64 h1) (.int .i64 h2)) D _ F2.out.d rfl)
    refine hK.out _ _ (BX.all B3.out) (fun hHeld => ?_)
    clear hK K k0 k1 k2 k3 k4 k5 k6 k7 k8
    try simp only [Act.put, List.setIfInBounds_toArray, List.set_cons_zero, List.set_cons_succ]
    generalize (((w3.setCell ⟨w.heap.size + 1 + 1, 0, none⟩ (.int .i64 l1)).setCell ⟨w.heap.size + 1 + 1, 1, none⟩ (.int .i64 l2)).setCell ⟨w.heap.size + 1 + 1, 2, none⟩ (.int .i64 h1)).setCell ⟨w.heap.size + 1 + 1, 3, none⟩ (.int .i64 h2) = W4 at *
    refine wpAnyH_ready (rs := [6]) (by kernel_rfl) (by simp) ?_
    refine AllReadyH.cons rfl (fun K hK => ?_) AllReadyH.nil
    have z0 := cells1 (F3.out.row (b := w.heap.size + 1 + 1 + 1) (cs := #[.int .i64 0]) (t := 26) (by simp))
    have z1 := (frozen2 (F3.out.row (b := w.heap.size + 1 + 1 + 1) (cs := #[.int .i64 0]) (t := 26) (by simp))).1
    go_simp
    have F5 := Lib.hid ((F3.out.sub (M := [(w.heap.size + 1 + 1 + 1, #[.int .i64 0], 26), (w.heap.size + 1 + 1, #[.int .i64 l1, .int .i64 l2, .int .i64 h1, .int .i64 h2], 25)]) (by simp)).set (by simp <;> omega) 0 (.int .i64 0))
    have B5 := Lib.hid ((World.cell?_setCell_other W4 ⟨w.heap.size + 1 + 1 + 1, 0, none⟩ ⟨w.heap.size + 1 + 1 + 1 + 1, 0, none⟩ (.int .i64 0) (by simp)).trans B3.out)
    have D5 := Lib.hid ((KeepsOthers.setCell W4 ⟨w.heap.size + 1 + 1 + 1, 0, none⟩ (.int .i64 0)).same D _ D3.out rfl)
    refine hK.out _ _ (BX.all B5.out) (fun hHeld => ?_)
    clear hK K z0 z1
    try simp only [Act.put, List.setIfInBounds_toArray, List.set_cons_zero, List.set_cons_succ]
    generalize W4.setCell ⟨w.heap.size + 1 + 1 + 1, 0, none⟩ (.int .i64 0) = W5 at *
    refine wpAnyH_done (by kernel_rfl) ?_ _
    refine NoPanic.normal ?_
    clear hHeld F0 TD F1 F2 F3 B3 D3 B5
    have hKD := D5.out
    gi_wp2
    refine ⟨by simp, .inl ⟨_, _, rfl, run_takeDeferred hKD, ?_⟩⟩
    refine ⟨.tuple #[.agg #[.int .i64 l1, .int .i64 l2, .int .i64 h1, .int .i64 h2], .int .i64 0], ?_, by rw [hR.out], F5.out.1.trans (belowK_b (w := w) (Nat.le_refl _) _ D _ _ (by omega) hKD rfl rfl)⟩
    refine res_quad rfl _ _ (w.heap.size + 1 + 1) (w.heap.size + 1 + 1 + 1) l1 l2 h1 h2 0 rfl rfl ?_ ?_
    · exact row_own (β := Unit) _ _ (fun _ => #[.int .i64 l1, .int .i64 l2, .int .i64 h1, .int .i64 h2]) () _ _ _ (F5.out.row (b := w.heap.size + 1 + 1) (by simp)) (grownBy_putObj' _ D (.deferred none)) (fun r e => by cases e; exact ⟨_, hKD, rfl⟩)
    · exact row_own (β := Unit) _ _ (fun _ => #[.int .i64 0]) () _ _ _ (F5.out.row (b := w.heap.size + 1 + 1 + 1) (by simp)) (grownBy_putObj' _ D (.deferred none)) (fun r e => by cases e; exact ⟨_, hKD, rfl⟩)
  case stop =>
    rintro D c pre W hD hS ⟨rfl, ini, last, rfl, i2, i3, i4⟩ hK
    have hR := Lib.hid (part_err (F := fun e => .tuple #[.agg #[.int .i64 0, .int .i64 0, .int .i64 0, .int .i64 0], .int .i64 e]) R0.out R1.out R2.out R3.out hS i2 i3)
    generalize sel last e0 e1 e2 e3 = ve at *
    clear i2 i3 hS
    have HI := Lib.hid i4
    clear i4
    gi_wp2
    refine ⟨by simp, .inl ⟨_, _, rfl, run_takeDeferred hK, ?_⟩⟩
    refine ⟨.tuple #[.agg #[.int .i64 0, .int .i64 0, .int .i64 0, .int .i64 0], .int .i64 ve], ?_, by rw [hR.out], HI.out.1.trans (belowK_b (w := w) (Nat.le_refl _) _ D _ _ (by omega) hK rfl rfl)⟩
    refine res_quad rfl _ _ (w.heap.size + 1 + 1) (w.heap.size + 1 + 1 + 1) 0 0 0 0 ve rfl rfl ?_ ?_
    · exact row_own (β := Unit) _ _ (fun _ => #[.int .i64 0, .int .i64 0, .int .i64 0, .int .i64 0]) () _ _ _ (HI.out.row (b := w.heap.size + 1 + 1) (by simp)) (grownBy_putObj' _ D (.deferred none)) (fun r e => by cases e; exact ⟨_, hK, rfl⟩)
    · exact row_own (β := Unit) _ _ (fun _ => #[.int .i64 ve]) () _ _ _ (HI.out.row (b := w.heap.size + 1 + 1 + 1) (by simp)) (grownBy_putObj' _ D (.deferred none)) (fun r e => by cases e; exact ⟨_, hK, rfl⟩)
set_option maxRecDepth 100000 in
set_option maxHeartbeats 4000000 in
theorem span_div (a b c d p q r s x0 y0 e0 x1 y1 e1 x2 y2 e2 x3 y3 e3 l1 l2 h1 h2 : Int) (R : Value)
    (FC0 : Hid (∀ w : World, Calls Try.prog 71 #[.agg #[.int .i64 a, .int .i64 b], .agg #[.int .i64 p, .int .i64 q]] w fun e w' => e = .returned (.tuple #[.agg #[.int .i64 x0, .int .i64 y0], .int .i64 e0]) ∧ Below w.heap.size w w'))
    (FC1 : Hid (∀ w : World, Calls Try.prog 71 #[.agg #[.int .i64 a, .int .i64 b], .agg #[.int .i64 r, .int .i64 s]] w fun e w' => e = .returned (.tuple #[.agg #[.int .i64 x1, .int .i64 y1], .int .i64 e1]) ∧ Below w.heap.size w w'))
    (FC2 : Hid (∀ w : World, Calls Try.prog 71 #[.agg #[.int .i64 c, .int .i64 d], .agg #[.int .i64 p, .int .i64 q]] w fun e w' => e = .returned (.tuple #[.agg #[.int .i64 x2, .int .i64 y2], .int .i64 e2]) ∧ Below w.heap.size w w'))
    (FC3 : Hid (∀ w : World, Calls Try.prog 71 #[.agg #[.int .i64 c, .int .i64 d], .agg #[.int .i64 r, .int .i64 s]] w fun e w' => e = .returned (.tuple #[.agg #[.int .i64 x3, .int .i64 y3], .int .i64 e3]) ∧ Below w.heap.size w w'))
    (R0 : Hid (¬ e0 = 0 → R = .tuple #[.agg #[.int .i64 0, .int .i64 0, .int .i64 0, .int .i64 0], .int .i64 e0])) (R1 : Hid (e0 = 0 → ¬ e1 = 0 → R = .tuple #[.agg #[.int .i64 0, .int .i64 0, .int .i64 0, .int .i64 0], .int .i64 e1])) (R2 : Hid (e0 = 0 → e1 = 0 → ¬ e2 = 0 → R = .tuple #[.agg #[.int .i64 0, .int .i64 0, .int .i64 0, .int .i64 0], .int .i64 e2])) (R3 : Hid (e0 = 0 → e1 = 0 → e2 = 0 → ¬ e3 = 0 → R = .tuple #[.agg #[.int .i64 0, .int .i64 0, .int .i64 0, .int .i64 0], .int .i64 e3]))
    (R4 : Hid (e0 = 0 → e1 = 0 → e2 = 0 → e3 = 0 → R = .tuple #[.agg #[.int .i64 l1, .int .i64 l2, .int .i64 h1, .int .i64 h2], .int .i64 0]))
    (MN : Hid (∀ (g cap : Nat) (W : World), g < W.heap.size → (W.cell? ⟨g, 0, none⟩ = some (.int .i64 x0) ∧ W.cell? ⟨g, 1, none⟩ = some (.int .i64 y0)) → (W.cell? ⟨g, 2, none⟩ = some (.int .i64 x1) ∧ W.cell? ⟨g, 3, none⟩ = some (.int .i64 y1)) → (W.cell? ⟨g, 4, none⟩ = some (.int .i64 x2) ∧ W.cell? ⟨g, 5, none⟩ = some (.int .i64 y2)) → (W.cell? ⟨g, 6, none⟩ = some (.int .i64 x3) ∧ W.cell? ⟨g, 7, none⟩ = some (.int .i64 y3)) → Calls Try.prog 90 #[.slice (some ⟨g, 0, none⟩) 4 cap, .func (.func 37) #[] #[]] W fun e w' => e = .returned (.agg #[.int .i64 l1, .int .i64 l2]) ∧ Below W.heap.size W w'))
    (MX : Hid (∀ (g cap : Nat) (W : World), g < W.heap.size → (W.cell? ⟨g, 0, none⟩ = some (.int .i64 x0) ∧ W.cell? ⟨g, 1, none⟩ = some (.int .i64 y0)) → (W.cell? ⟨g, 2, none⟩ = some (.int .i64 x1) ∧ W.cell? ⟨g, 3, none⟩ = some (.int .i64 y1)) → (W.cell? ⟨g, 4, none⟩ = some (.int .i64 x2) ∧ W.cell? ⟨g, 5, none⟩ = some (.int .i64 y2)) → (W.cell? ⟨g, 6, none⟩ = some (.int .i64 x3) ∧ W.cell? ⟨g, 7, none⟩ = some (.int .i64 y3)) → Calls Try.prog 91 #[.slice (some ⟨g, 0, none⟩) 4 cap, .func (.func 37) #[] #[]] W fun e w' => e = .returned (.agg #[.int .i64 h1, .int .i64 h2]) ∧ Below W.heap.size W w'))
    (w : World) : CallsIn Fence.wide 3 Try.prog 69 #[.func (.func 71) #[] #[], .agg #[.int .i64 a, .int .i64 b, .int .i64 c, .int .i64 d], .agg #[.int .i64 p, .int .i64 q, .int .i64 r, .int .i64 s]] w fun e W' => e = .returned R ∧ Below w.heap.size w W' := by
  have T0 := Lib.hid (((((((((Has.start w).alloc #[.int .i64 a, .int .i64 b, .int .i64 c, .int .i64 d] 25).alloc #[.int .i64 p, .int .i64 q, .int .i64 r, .int .i64 s] 25).alloc #[.int .i64 0, .int .i64 0, .int .i64 0, .int .i64 0] 25).alloc #[.int .i64 0] 26).alloc #[.slice none 0 0] 43).alloc #[.func (.func 71) #[] #[]] 85).alloc #[.int .i64 a, .int .i64 b, .int .i64 c, .int .i64 d] 25).alloc #[.int .i64 p, .int .i64 q, .int .i64 r, .int .i64 s] 25)
  simp only [World.size_alloc] at T0
  have hz : ((((((((w.alloc (.cells #[.int .i64 a, .int .i64 b, .int .i64 c, .int .i64 d] 25)).alloc (.cells #[.int .i64 p, .int .i64 q, .int .i64 r, .int .i64 s] 25)).alloc (.cells #[.int .i64 0, .int .i64 0, .int .i64 0, .int .i64 0] 25)).alloc (.cells #[.int .i64 0] 26)).alloc (.cells #[.slice none 0 0] 43)).alloc (.cells #[.func (.func 71) #[] #[]] 85)).alloc (.cells #[.int .i64 a, .int .i64 b, .int .i64 c, .int .i64 d] 25)).alloc (.cells #[.int .i64 p, .int .i64 q, .int .i64 r, .int .i64 s] 25)).heap.size = w.heap.size + 8 := by simp only [World.size_alloc]
  refine callsIn_of_wp_marks Try.func69 rfl trivial ?_ rfl
  simp only [Try.ntmps69, List.size_toArray, List.length_cons, List.length_nil, Nat.reduceAdd, Nat.reduceSub, Array.replicate_succ, Array.replicate_zero, List.push_toArray, List.append_toArray, List.nil_append, List.cons_append]
  gi_wp2_with fail
  refine ⟨trivial, ?_⟩
  refine (ofEnds_div _ a b c d p q r s _).mono ?_
  rintro e w' ⟨rfl, rfl⟩
  gi_wp2_with fail
  generalize (((((((w.alloc (.cells #[.int .i64 a, .int .i64 b, .int .i64 c, .int .i64 d] 25)).alloc (.cells #[.int .i64 p, .int .i64 q, .int .i64 r, .int .i64 s] 25)).alloc (.cells #[.int .i64 0, .int .i64 0, .int .i64 0, .int .i64 0] 25)).alloc (.cells #[.int .i64 0] 26)).alloc (.cells #[.slice none 0 0] 43)).alloc (.cells #[.func (.func 71) #[] #[]] 85)).alloc (.cells #[.int .i64 a, .int .i64 b, .int .i64 c, .int .i64 d] 25)).alloc (.cells #[.int .i64 p, .int .i64 q, .int .i64 r, .int .i64 s] 25) = W0 at *
  have hrb : Boxed W0 (w.heap.size + 1 + 1 + 1 + 1) 43 (.slice none 0 0) := T0.out.row (b := w.heap.size + 1 + 1 + 1 + 1) (cs := #[.slice none 0 0]) (t := 43) (by simp)
  have hro0 : rowOf (w.heap.size + 1 + 1 + 1 + 1) W0 = 0 := by rw [rowOf_box hrb]; rfl
  have S0 : Sta (w.heap.size + 1 + 1 + 1 + 1 + 1) (w.heap.size + 1 + 1 + 1 + 1) (fun _ _ => True) [] [(w.heap.size + 1 + 1 + 1 + 1 + 1, #[.func (.func 71) #[] #[]], 85), (w.heap.size + 1 + 1 + 1 + 1 + 1 + 1, #[.int .i64 a, .int .i64 b, .int .i64 c, .int .i64 d], 25), (w.heap.size + 1 + 1 + 1 + 1 + 1 + 1 + 1, #[.int .i64 p, .int .i64 q, .int .i64 r, .int .i64 s], 25)] W0 := by
    refine ⟨trivial, fun x hx => ⟨(T0.out.2 x (by simp only [List.mem_cons, List.not_mem_nil, or_false] at hx ⊢; rcases hx with h | h | h <;> simp [h])).1, ?_, ?_⟩, by omega, by omega, by omega⟩
    · simp only [List.mem_cons, List.not_mem_nil, or_false] at hx
      rcases hx with rfl | rfl | rfl <;> simp only <;> omega
    · rw [hro0]
      simp only [List.mem_cons, List.not_mem_nil, or_false] at hx
      rcases hx with rfl | rfl | rfl <;> simp only <;> omega
  have TR := Lib.hid (T0.out.sub (M := [(w.heap.size + 1 + 1 + 1, #[.int .i64 0], 26), (w.heap.size + 1 + 1, #[.int .i64 0, .int .i64 0, .int .i64 0, .int .i64 0], 25)]) (by intro x hx; simp only [List.mem_cons, List.not_mem_nil, or_false] at hx ⊢; rcases hx with h | h <;> simp [h]))
  clear T0
  refine wpIn_rangeFunc_ownH rfl (by omega) (gf := 103) (lb := #[.pointer (some ⟨w.heap.size + 1 + 1 + 1 + 1 + 1 + 1, 0, none⟩), .pointer (some ⟨w.heap.size + 1 + 1 + 1 + 1 + 1 + 1 + 1, 0, none⟩), .pointer (some ⟨w.heap.size + 1 + 1 + 1 + 1 + 1, 0, none⟩)]) rfl trivial (enters_of Try.func103 (by kernel_rfl) rfl)
    (stops_div 2 (by omega) (w.heap.size + 1 + 1 + 1 + 1 + 1) (w.heap.size + 1 + 1 + 1 + 1) (w.heap.size + 1 + 1 + 1 + 1 + 1) (w.heap.size + 1 + 1 + 1 + 1 + 1 + 1) (w.heap.size + 1 + 1 + 1 + 1 + 1 + 1 + 1) a b c d p q r s x0 y0 e0 x1 y1 e1 x2 y2 e2 x3 y3 e3 FC0 FC1 FC2 FC3 W0 S0) (fun h k => h.trans k) (fun W l o o' hl h hc _ => Kept.put W l o o' (by omega) h hc) (Below.refl _ _) (fun _ => rfl)
    (fun pre W => ((∀ x ∈ pre, sel x e0 e1 e2 e3 = 0) ∧ Has w [(w.heap.size + 1 + 1 + 1, #[.int .i64 0], 26), (w.heap.size + 1 + 1, #[.int .i64 0, .int .i64 0, .int .i64 0, .int .i64 0], 25)] W) ∧ ∃ v, Boxed W (w.heap.size + 1 + 1 + 1 + 1) 43 v ∧ W.ownsRow w.heap.size 23 2 v pre.length (flat (fun k => sel k x0 x1 x2 x3) (fun k => sel k y0 y1 y2 y3) pre) ∧ True)
    (fun c pre W => c = .ret ∧ ∃ ini last, pre = ini ++ [last] ∧ (∀ x ∈ ini, sel x e0 e1 e2 e3 = 0) ∧ ¬ sel last e0 e1 e2 e3 = 0 ∧ Has w [(w.heap.size + 1 + 1 + 1, #[.int .i64 (sel last e0 e1 e2 e3)], 26), (w.heap.size + 1 + 1, #[.int .i64 0, .int .i64 0, .int .i64 0, .int .i64 0], 25)] W)
    (OwnFrom.and (fun s A B row h hg hr => ⟨h.1, has_own (β := Unit) w _ _ (by omega) () A B row h.2 hg hr⟩) (Own.from (holdsRow_own _ _ _ _ _ _ _ (fun _ _ => True)) _))
    (fun c s A B row h hg hr => by
      obtain ⟨hc, ini, last, i1, i2, i3, i4⟩ := h
      exact ⟨hc, ini, last, i1, i2, i3, has_own (β := Unit) w _ _ (by omega) () A B row i4 hg hr⟩)
    ⟨⟨by simp, TR.out⟩, _, hrb, World.ownsRow_nil _ _ _ _, trivial⟩
    (fun x a' W => ∃ Bx, w.heap.size + 1 + 1 + 1 + 1 + 1 ≤ Bx ∧ W.heap[Bx]? = some (.cells #[.int .i64 (sel x x0 x1 x2 x3), .int .i64 (sel x y0 y1 y2 y3)] 23 (0, 0)) ∧ a' = { tmps := #[.func (.func 71) #[] #[], .agg #[.int .i64 a, .int .i64 b, .int .i64 c, .int .i64 d], .agg #[.int .i64 p, .int .i64 q, .int .i64 r, .int .i64 s], undef, .pointer (some ⟨w.heap.size, 0, none⟩), .pointer (some ⟨w.heap.size + 1, 0, none⟩), .pointer (some ⟨w.heap.size + 1 + 1, 0, none⟩), .pointer (some ⟨w.heap.size + 1 + 1 + 1, 0, none⟩), .pointer (some ⟨w.heap.size + 1 + 1 + 1 + 1, 0, none⟩), .pointer (some ⟨Bx, 0, none⟩), .int .i64 (sel x e0 e1 e2 e3), .func (.func 71) #[] #[], .agg #[.int .i64 a, .int .i64 b, .int .i64 c, .int .i64 d], .agg #[.int .i64 p, .int .i64 q, .int .i64 r, .int .i64 s], .func (.func 103) #[] #[.pointer (some ⟨w.heap.size + 1 + 1 + 1 + 1 + 1 + 1, 0, none⟩), .pointer (some ⟨w.heap.size + 1 + 1 + 1 + 1 + 1 + 1 + 1, 0, none⟩), .pointer (some ⟨w.heap.size + 1 + 1 + 1 + 1 + 1, 0, none⟩)], .agg #[.int .i64 (sel x x0 x1 x2 x3), .int .i64 (sel x y0 y1 y2 y3)], .int .i64 (sel x e0 e1 e2 e3), undef, undef, undef, undef, undef, undef, undef, undef, undef, undef, undef, undef, undef], defers := [] })
    (fun x a' _ A B row hs hg hr => by
      obtain ⟨Bx, i1, i2, i3⟩ := hs
      exact ⟨Bx, i1, row_own (β := Unit) Bx _ (fun _ => _) () A B row i2 hg (fun r e => (hr r e).2), i3⟩)
    ?assign ?body ?done ?stop
  case assign =>
    rintro l pre x W K ⟨⟨i1, i2⟩, v, i3, i4, _⟩ hK
    have hle := i2.1.size
    gi_wp2
    have hsz : w.heap.size + 1 + 1 + 1 + 1 + 1 ≤ W.heap.size := (Array.getElem?_eq_some_iff.1 i3).1
    refine hK _ _ ((KeepsOthers.alloc _ _).from _) (Kept.alloc _ _ hsz) ⟨⟨i1, has_own (β := Unit) w _ _ (Nat.le_refl _) () W _ none i2 (World.grownBy_alloc W _ none) (fun r e => by cases e)⟩, v, i3.alloc _, i4.alloc _, trivial⟩ ⟨W.heap.size, hsz, heap_alloc_new _ _, rfl⟩
  case body =>
    rintro l pre x a' W hl _ ⟨⟨i1, i2⟩, v, i3, i4, _⟩ ⟨Bx, j1, j2, rfl⟩ hlt
    generalize hE : sel x e0 e1 e2 e3 = ve at *
    generalize hX : sel x x0 x1 x2 x3 = vx at *
    generalize hY : sel x y0 y1 y2 y3 = vy at *
    by_cases he : ve = 0
    · subst he
      obtain ⟨i0, hi, hz0, hz1, hz2⟩ := info_parts infoR
      have hc := i3.cell
      obtain ⟨u0, u1⟩ := cells2 j2
      have hB := i2.1
      have hlw := rowOf_lt i3 i4
      gi_wp2_with (gi_at_builtin; refine wpListIn_append_own_at _ rfl _ _ 43 rfl w.heap.size 23 i0 (.agg #[.int .i64 0, .int .i64 0]) 2 16 Try.underlying43 hi hz0 hz1 hz2 rfl (by decide) _ _ _ rfl (i4.alloc _) ⟨W.heap.size, 0, none⟩ 1 1 [.int .i64 vx, .int .i64 vy] rfl rfl (cell_two_new _ _ _ _) (by simp [Value.oneCell']) (by simp only [maxLen]; omega) (by omega) (by have := hB.size; simp; omega) ?_; intro v' w1 hown' hgrow _ hat; obtain ⟨g', cap', rfl⟩ := ownsRow_succ hown'; obtain ⟨hv1, hv2, hr2, hk2, hb2⟩ := i3.appended (by decide) i4 hB.size (by omega) hown' hgrow; have hc1 := hv1.cell; have hf1 := hv1.frozen)
      refine ⟨hk2.from _, Kept.appended (by omega) i3 hv1 hown' hgrow hat hlw, ⟨⟨fun y hy => ?_, ?_⟩, _, hv2, ?_, trivial⟩⟩
      · rcases List.mem_append.1 hy with h | h
        · exact i1 y h
        · simp only [List.mem_singleton] at h
          subst h
          exact hE
      · refine ⟨hB.trans hb2, fun y hy => ?_⟩
        simp only [List.mem_cons, List.not_mem_nil, or_false] at hy
        rcases hy with rfl | rfl
        · exact ⟨row_appended (i2.row (by simp)) (by dsimp only; decide) i4 hgrow (by simp only; omega), by simp only; omega⟩
        · exact ⟨row_appended (i2.row (by simp)) (by dsimp only; decide) i4 hgrow (by simp only; omega), by simp only; omega⟩
      · rw [List.length_append, flat_snoc]
        simp only [hX, hY]
        exact hr2
    · have heb : (ve != 0) = true := by simp [he]
      obtain ⟨k0, k1, k2, k3, k4⟩ := Has.c4 (g := w.heap.size + 1 + 1) (x := .int .i64 0) (y := .int .i64 0) (z := .int .i64 0) (u := .int .i64 0) (t := 25) i2 (by simp)
      obtain ⟨k5, k6, k7, k8⟩ := Has.f4 (g := w.heap.size + 1 + 1) (cs := #[.int .i64 0, .int .i64 0, .int .i64 0, .int .i64 0]) (t := 25) i2 (by simp)
      have z0 := cells1 (i2.row (b := w.heap.size + 1 + 1 + 1) (cs := #[.int .i64 0]) (t := 26) (by simp))
      have z1 := (frozen2 (i2.row (b := w.heap.size + 1 + 1 + 1) (cs := #[.int .i64 0]) (t := 26) (by simp))).1
      have F1 := Lib.hid (Has.put4 (g := w.heap.size + 1 + 1) (x := .int .i64 0) (y := .int .i64 0) (z := .int .i64 0) (u := .int .i64 0) (t := 25) (M := [(w.heap.size + 1 + 1 + 1, #[.int .i64 0], 26)]) i2 (.int .i64 0) (.int .i64 0) (.int .i64 0) (.int .i64 0) (by simp) (by simp <;> omega))
      have F2 := Lib.hid ((F1.out.sub (M := [(w.heap.size + 1 + 1 + 1, #[.int .i64 0], 26), (w.heap.size + 1 + 1, #[.int .i64 0, .int .i64 0, .int .i64 0, .int .i64 0], 25)]) (by simp)).set (by simp <;> omega) 0 (.int .i64 ve))
      clear F1
      gi_wp2
      exact ⟨(keeps5 W _ _ _ _ _ _ _ _ _ _).from _, rfl, pre, x, rfl, i1, by rw [hE]; exact he, by rw [hE]; exact F2.out⟩
  case done =>
    rintro D ys W hD rfl ⟨⟨i1, i2⟩, v, i3, i4, _⟩ hK
    obtain ⟨g, cap, rfl⟩ := ownsRow_succ (k := 3) i4
    obtain ⟨hg, c0, c1, c2, c3⟩ := row4 i4
    have hR := Lib.hid (R4.out (i1 0 (by simp)) (i1 1 (by simp)) (i1 2 (by simp)) (i1 3 (by simp)))
    have F0 : Hid (SX w [(w.heap.size + 1 + 1 + 1, #[.int .i64 0], 26), (w.heap.size + 1 + 1, #[.int .i64 0, .int .i64 0, .int .i64 0, .int .i64 0], 25)] (w.heap.size + 1 + 1 + 1 + 1) g cap D (.int .i64 x0) (.int .i64 y0) (.int .i64 x1) (.int .i64 y1) (.int .i64 x2) (.int .i64 y2) (.int .i64 x3) (.int .i64 y3) W) := Lib.hid (SX.mk i2 i3.lt i3.cell hg c0 c1 c2 c3 hK)
    clear c0 c1 c2 c3 i1 i2 i4 hK i3 hg
    have TD := Lib.hid F0.out.drew
    gi_upto_region 8 with fail
    refine wpIn_wide.2 ?_
    refine wp_region_noPanic ?_
    refine wp_region_held_drew (S := (fun V => BX (w.heap.size + 1 + 1 + 1 + 1) g cap V ∧ V.cell? ⟨w.heap.size + 1 + 1 + 1 + 1, 0, none⟩ = some (.slice (some ⟨g, 0, none⟩) 4 cap))) (by kernel_rfl) (BX.all TD.out.box) (fun hHeld => ?_)
    refine wpAnyH_take (i := 0) (v := _) rfl (by kernel_rfl) (by kernel_rfl) (by kernel_rfl) (fun _ _ _ h => h) (Or.inl ⟨by rfl, by intro w hSw; (try dsimp only at hSw); go_simp; try (with_reducible rfl)⟩) (by assumption) ?_
    try simp only [Act.put, List.setIfInBounds_toArray, List.set_cons_zero, List.set_cons_succ]
    refine wpAnyH_take (i := 2) (v := _) rfl (by kernel_rfl) (by kernel_rfl) (by kernel_rfl) (fun _ _ _ h => h) (Or.inl ⟨by rfl, by intro w hSw; (try dsimp only at hSw); go_simp; try (with_reducible rfl)⟩) (by assumption) ?_
    try simp only [Act.put, List.setIfInBounds_toArray, List.set_cons_zero, List.set_cons_succ]
    refine wpAnyH_ready (rs := [1]) (by kernel_rfl) (by simp) ?_
    refine AllReadyH.cons rfl (fun K hK => ?_) AllReadyH.nil
    go_simp
    go_at_call 90
    with_reducible refine Calls.mono (MN.out g cap _ TD.out.lt TD.out.c0 TD.out.c1 TD.out.c2 TD.out.c3) ?_
    rintro e w2 ⟨rfl, hb⟩
    have F1 := Lib.hid (TD.out.step hb)
    clear hb
    refine hK.out _ _ (BX.all F1.out.box) (fun hHeld => ?_)
    clear hK K
    try simp only [Act.put, List.setIfInBounds_toArray, List.set_cons_zero, List.set_cons_succ]
    refine wpAnyH_ready (rs := [3]) (by kernel_rfl) (by simp) ?_
    refine AllReadyH.cons rfl (fun K hK => ?_) AllReadyH.nil
    go_simp
    go_at_call 91
    with_reducible refine Calls.mono (MX.out g cap _ F1.out.lt F1.out.c0 F1.out.c1 F1.out.c2 F1.out.c3) ?_
    rintro e w3 ⟨rfl, hb⟩
    have F2 := Lib.hid (F1.out.step hb)
    clear hb
    refine hK.out _ _ (BX.all F2.out.box) (fun hHeld => ?_)
    clear hK K
    try simp only [Act.put, List.setIfInBounds_toArray, List.set_cons_zero, List.set_cons_succ]
    refine wpAnyH_take (i := 4) (v := _) rfl (by kernel_rfl) (by kernel_rfl) (by kernel_rfl) (fun _ _ _ h => h) (Or.inl ⟨by rfl, by intro w hSw; (try dsimp only at hSw); go_simp; try (with_reducible rfl)⟩) (by assumption) ?_
    try simp only [Act.put, List.setIfInBounds_toArray, List.set_cons_zero, List.set_cons_succ]
    refine wpAnyH_ready (rs := [5]) (by kernel_rfl) (by simp) ?_
    refine AllReadyH.cons rfl (fun K hK => ?_) AllReadyH.nil
    obtain ⟨k0, k1, k2, k3, k4⟩ := Has.c4 (g := w.heap.size + 1 + 1) (x := .int .i64 0) (y := .int .i64 0) (z := .int .i64 0) (u := .int .i64 0) (t := 25) F2.out.has (by simp)
    obtain ⟨k5, k6, k7, k8⟩ := Has.f4 (g := w.heap.size + 1 + 1) (cs := #[.int .i64 0, .int .i64 0, .int .i64 0, .int .i64 0]) (t := 25) F2.out.has (by simp)
    go_simp
    have F3 := Lib.hid (Has.put4 (g := w.heap.size + 1 + 1) (x := .int .i64 0) (y := .int .i64 0) (z := .int .i64 0) (u := .int .i64 0) (t := 25) (M := [(w.heap.size + 1 + 1 + 1, #[.int .i64 0], 26)]) F2.out.has (.int .i64 l1) (.int .i64 l2) (.int .i64 h1) (.int .i64 h2) (by simp) (by simp <;> omega))
    have B3 := Lib.hid (box4 (p := w.heap.size + 1 + 1) (rb := w.heap.size + 1 + 1 + 1 + 1) F2.out.box (.int .i64 l1) (.int .i64 l2) (.int .i64 h1) (.int .i64 h2) (by omega))
    have D3 := Lib.hid (KeepsOthers.same (keeps4 w3 ⟨w.heap.size + 1 + 1, 0, none⟩ ⟨w.heap.size + 1 + 1, 1, none⟩ ⟨w.heap.size + 1 + 1, 2, none⟩ ⟨w.heap.size + 1 + 1, 3, none⟩ (.int .i64 l1) (.int .i64 l2) (.int .i64 h1) (.int .i64 h2)) D _ F2.out.d rfl)
    refine hK.out _ _ (BX.all B3.out) (fun hHeld => ?_)
    clear hK K k0 k1 k2 k3 k4 k5 k6 k7 k8
    try simp only [Act.put, List.setIfInBounds_toArray, List.set_cons_zero, List.set_cons_succ]
    generalize (((w3.setCell ⟨w.heap.size + 1 + 1, 0, none⟩ (.int .i64 l1)).setCell ⟨w.heap.size + 1 + 1, 1, none⟩ (.int .i64 l2)).setCell ⟨w.heap.size + 1 + 1, 2, none⟩ (.int .i64 h1)).setCell ⟨w.heap.size + 1 + 1, 3, none⟩ (.int .i64 h2) = W4 at *
    refine wpAnyH_ready (rs := [6]) (by kernel_rfl) (by simp) ?_
    refine AllReadyH.cons rfl (fun K hK => ?_) AllReadyH.nil
    have z0 := cells1 (F3.out.row (b := w.heap.size + 1 + 1 + 1) (cs := #[.int .i64 0]) (t := 26) (by simp))
    have z1 := (frozen2 (F3.out.row (b := w.heap.size + 1 + 1 + 1) (cs := #[.int .i64 0]) (t := 26) (by simp))).1
    go_simp
    have F5 := Lib.hid ((F3.out.sub (M := [(w.heap.size + 1 + 1 + 1, #[.int .i64 0], 26), (w.heap.size + 1 + 1, #[.int .i64 l1, .int .i64 l2, .int .i64 h1, .int .i64 h2], 25)]) (by simp)).set (by simp <;> omega) 0 (.int .i64 0))
    have B5 := Lib.hid ((World.cell?_setCell_other W4 ⟨w.heap.size + 1 + 1 + 1, 0, none⟩ ⟨w.heap.size + 1 + 1 + 1 + 1, 0, none⟩ (.int .i64 0) (by simp)).trans B3.out)
    have D5 := Lib.hid ((KeepsOthers.setCell W4 ⟨w.heap.size + 1 + 1 + 1, 0, none⟩ (.int .i64 0)).same D _ D3.out rfl)
    refine hK.out _ _ (BX.all B5.out) (fun hHeld => ?_)
    clear hK K z0 z1
    try simp only [Act.put, List.setIfInBounds_toArray, List.set_cons_zero, List.set_cons_succ]
    generalize W4.setCell ⟨w.heap.size + 1 + 1 + 1, 0, none⟩ (.int .i64 0) = W5 at *
    refine wpAnyH_done (by kernel_rfl) ?_ _
    refine NoPanic.normal ?_
    clear hHeld F0 TD F1 F2 F3 B3 D3 B5
    have hKD := D5.out
    gi_wp2
    refine ⟨by simp, .inl ⟨_, _, rfl, run_takeDeferred hKD, ?_⟩⟩
    refine ⟨.tuple #[.agg #[.int .i64 l1, .int .i64 l2, .int .i64 h1, .int .i64 h2], .int .i64 0], ?_, by rw [hR.out], F5.out.1.trans (belowK_b (w := w) (Nat.le_refl _) _ D _ _ (by omega) hKD rfl rfl)⟩
    refine res_quad rfl _ _ (w.heap.size + 1 + 1) (w.heap.size + 1 + 1 + 1) l1 l2 h1 h2 0 rfl rfl ?_ ?_
    · exact row_own (β := Unit) _ _ (fun _ => #[.int .i64 l1, .int .i64 l2, .int .i64 h1, .int .i64 h2]) () _ _ _ (F5.out.row (b := w.heap.size + 1 + 1) (by simp)) (grownBy_putObj' _ D (.deferred none)) (fun r e => by cases e; exact ⟨_, hKD, rfl⟩)
    · exact row_own (β := Unit) _ _ (fun _ => #[.int .i64 0]) () _ _ _ (F5.out.row (b := w.heap.size + 1 + 1 + 1) (by simp)) (grownBy_putObj' _ D (.deferred none)) (fun r e => by cases e; exact ⟨_, hKD, rfl⟩)
  case stop =>
    rintro D c pre W hD hS ⟨rfl, ini, last, rfl, i2, i3, i4⟩ hK
    have hR := Lib.hid (part_err (F := fun e => .tuple #[.agg #[.int .i64 0, .int .i64 0, .int .i64 0, .int .i64 0], .int .i64 e]) R0.out R1.out R2.out R3.out hS i2 i3)
    generalize sel last e0 e1 e2 e3 = ve at *
    clear i2 i3 hS
    have HI := Lib.hid i4
    clear i4
    gi_wp2
    refine ⟨by simp, .inl ⟨_, _, rfl, run_takeDeferred hK, ?_⟩⟩
    refine ⟨.tuple #[.agg #[.int .i64 0, .int .i64 0, .int .i64 0, .int .i64 0], .int .i64 ve], ?_, by rw [hR.out], HI.out.1.trans (belowK_b (w := w) (Nat.le_refl _) _ D _ _ (by omega) hK rfl rfl)⟩
    refine res_quad rfl _ _ (w.heap.size + 1 + 1) (w.heap.size + 1 + 1 + 1) 0 0 0 0 ve rfl rfl ?_ ?_
    · exact row_own (β := Unit) _ _ (fun _ => #[.int .i64 0, .int .i64 0, .int .i64 0, .int .i64 0]) () _ _ _ (HI.out.row (b := w.heap.size + 1 + 1) (by simp)) (grownBy_putObj' _ D (.deferred none)) (fun r e => by cases e; exact ⟨_, hK, rfl⟩)
    · exact row_own (β := Unit) _ _ (fun _ => #[.int .i64 ve]) () _ _ _ (HI.out.row (b := w.heap.size + 1 + 1 + 1) (by simp)) (grownBy_putObj' _ D (.deferred none)) (fun r e => by cases e; exact ⟨_, hK, rfl⟩)
end Go.Proofs.Ytbiegbnncnjnmaa.Iv
