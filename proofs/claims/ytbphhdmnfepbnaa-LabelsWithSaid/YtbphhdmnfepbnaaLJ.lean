/- Layer 5: Get of the program. -/
import Derived.Test.YtbphhdmnfepbnaaLI
import Derived.Test.YtbphhdmnfepbnaaLH
set_option linter.unusedVariables false
set_option linter.unusedSimpArgs false
namespace Go.Proofs.Ytbphhdmnfepbnaa.Lab
open Go.RowKit Go.Shelf
attribute [local go_sem] Oper.semAt_some
theorem row_own {β : Type} (b : Nat) (t : TypeId) (f : β → Array Value) : Own (fun s W => W.heap[b]? = some (.cells (f s) t (0, 0))) := fun s X Y row hs hg hrow =>
  (hg.block b (Array.getElem?_eq_some_iff.1 hs).1 (fun e' => by obtain ⟨o, ho, hc⟩ := hrow b e'.symm; rw [hs] at ho; cases ho; cases hc)).trans hs
theorem cells1 {W : World} {b : Nat} {x : Value} {t : TypeId} (h : W.heap[b]? = some (.cells #[x] t (0, 0))) : W.cell? ⟨b, 0, none⟩ = some x ∧ W.frozen? ⟨b, 0, none⟩ = false := by
  constructor
  · simp [World.cell?, h]
  · simp [World.frozen?, h]
theorem cells2 {W : World} {b : Nat} {x y : Value} {t : TypeId} (h : W.heap[b]? = some (.cells #[x, y] t (0, 0))) : W.cell? ⟨b, 0, none⟩ = some x ∧ W.cell? ⟨b, 1, none⟩ = some y := by
  constructor <;> simp [World.cell?, h]
theorem hset_cell {W : World} {b : Nat} {x y : Value} {t : TypeId} (h : W.heap[b]? = some (.cells #[x] t (0, 0))) : (W.setCell ⟨b, 0, none⟩ y).heap[b]? = some (.cells #[y] t (0, 0)) := by
  simp [World.setCell, Array.getElem?_modify, h]
theorem getL_none {l : List Lb} {s : ByteArray} (h : keepL true [s] l = []) : getL l s = ⟨#[]⟩ := by
  induction l with
  | nil => rfl
  | cons x r ih =>
    unfold keepL at h
    rw [List.filter_cons] at h
    split at h
    · cases h
    · rename_i hx
      rw [getL, if_neg, ih h]
      intro he
      apply hx
      simp only [hasB, List.any_cons, List.any_nil, Bool.or_false, beq_iff_eq, eqS]
      rw [beq_iff_eq] at he
      exact he.symm
theorem getL_some {l : List Lb} {s : ByteArray} {x : Lb} (h : [x] <+: keepL true [s] l) : getL l s = x.v := by
  induction l with
  | nil => obtain ⟨t, ht⟩ := h; cases ht
  | cons y r ih =>
    unfold keepL at h
    rw [List.filter_cons] at h
    split at h
    · rename_i hx
      obtain ⟨t, ht⟩ := h
      injection ht with h1 h2
      subst h1
      simp only [hasB, List.any_cons, List.any_nil, Bool.or_false, beq_iff_eq, eqS] at hx
      rw [getL, if_pos]
      rw [beq_iff_eq]
      exact hx.symm
    · rename_i hx
      rw [getL, if_neg, ih h]
      intro he
      apply hx
      simp only [hasB, List.any_cons, List.any_nil, Bool.or_false, beq_iff_eq, eqS]
      rw [beq_iff_eq] at he
      exact he.symm
set_option maxRecDepth 100000 in
set_option maxHeartbeats 4000000 in
theorem get_in (l : List Lb) (hl : l.length ≤ 100000) (s : ByteArray) (A : Option Addr) (c : Nat) (w : World) (hL : LS w w.heap.size A l) :
    CallsIn Fence.wide 3 Try.prog 12 #[.slice A l.length c, .string s] w fun e W' => e = .returned (.string (getL l s)) ∧ Below w.heap.size w W' := by
  have HL := Lib.hid hL
  clear hL
  obtain ⟨W0, hW0⟩ : ∃ W0, W0 = (((((w.alloc (.cells #[.string ⟨#[]⟩] 9)).alloc (.cells #[.string s] 9)).alloc (.cells #[.slice A l.length c] 22)).alloc (.cells #[.slice (some ⟨w.heap.size + 1, 0, none⟩) 1 1] 23)).alloc (.cells #[.bool true] 4)) := ⟨_, rfl⟩
  have hsz : W0.heap.size = w.heap.size + 5 := by rw [hW0]; simp
  have hB0 : Below w.heap.size w W0 := by rw [hW0]; exact ((((((Below.refl _ w).alloc (Nat.le_refl _) _).alloc (by simp) _).alloc (by simp; omega) _).alloc (by simp; omega) _).alloc (by simp; omega) _)
  have r0 : W0.heap[w.heap.size]? = some (.cells #[.string ⟨#[]⟩] 9 (0, 0)) := by
    rw [hW0]
    rw [Below.heap_alloc _ _ _ (by simp; omega), Below.heap_alloc _ _ _ (by simp; omega), Below.heap_alloc _ _ _ (by simp; omega), Below.heap_alloc _ _ _ (by simp)]
    exact World.alloc_heap_new _ _
  have q1 : W0.cell? ⟨w.heap.size + 1 + 1, 0, none⟩ = some (.slice A l.length c) := by rw [hW0]; go_simp
  have q2 : W0.cell? ⟨w.heap.size + 1 + 1 + 1, 0, none⟩ = some (.slice (some ⟨w.heap.size + 1, 0, none⟩) 1 1) := by rw [hW0]; go_simp
  have q3 : W0.cell? ⟨w.heap.size + 1 + 1 + 1 + 1, 0, none⟩ = some (.bool true) := by rw [hW0]; go_simp
  have q4 : SS W0 W0.heap.size (some ⟨w.heap.size + 1, 0, none⟩) [s] := fun _ => ⟨_, 0, rfl, by omega, fun j hj => by
    have : j = 0 := by simpa using hj
    subst this
    rw [hW0]
    go_simp⟩
  have q5 : LS W0 W0.heap.size A l := (HL.out.below hB0).more hB0.size
  have ST := Lib.hid (named_stops 2 (by omega) W0.heap.size (w.heap.size + 1 + 1) (w.heap.size + 1 + 1 + 1) (w.heap.size + 1 + 1 + 1 + 1) true l hl [s] (by unfold maxLen; simp) A (some ⟨w.heap.size + 1, 0, none⟩) c 1 W0 (Nat.le_refl _) (by omega) (by omega) (by omega) q1 q2 q3 q5 q4)
  have H0 := Lib.hid hB0
  have R0 := Lib.hid r0
  clear q1 q2 q3 q4 q5 hB0 r0
  refine callsIn_of_wp_marks Try.func12 rfl trivial ?_ rfl
  simp only [Try.ntmps12, List.size_toArray, List.length_cons, List.length_nil, Nat.reduceAdd, Nat.reduceSub, Array.replicate_succ, Array.replicate_zero, List.push_toArray, List.append_toArray, List.nil_append, List.cons_append]
  gi_wp2_with (refine ⟨trivial, ?_⟩; gi_at_call 36; with_reducible refine (callsIn_wide.2 (named_any _ _ _ _ _ _ _ _)).mono ?_; rintro e w' ⟨rfl, rfl⟩)
  rw [← hW0]
  clear hW0
  refine wpIn_rangeFunc_ownH rfl (by omega) (gf := 57) (lb := #[.pointer (some ⟨w.heap.size + 1 + 1, 0, none⟩), .pointer (some ⟨w.heap.size + 1 + 1 + 1, 0, none⟩), .pointer (some ⟨w.heap.size + 1 + 1 + 1 + 1, 0, none⟩)]) rfl trivial (enters_of Try.func57 (by kernel_rfl) rfl)
    ST.out (fun h k => h.trans k) (fun W l o o' hl h hc _ => (belowK_b (w := W0) (Nat.le_refl _) W l o o' hl h hc ‹_›)) (Below.refl _ _) (fun _ => rfl)
    (fun pre W => pre = [] ∧ Below W0.heap.size W0 W)
    (fun cc pre W => (cc = .ret ∧ ∃ x, pre = [x] ∧ W.heap[w.heap.size]? = some (.cells #[.string x.v] 9 (0, 0))) ∧ Below w.heap.size w W)
    (fun s A B row h hg hr => ⟨h.1, ownFrom_below (β := Unit) (Nat.le_refl _) (Nat.le_refl _) () A B row h.2 hg hr⟩)
    (fun cc => OwnFrom.and (Own.from (fun s A B row h hg hr => by
      obtain ⟨h1, x, h2, h3⟩ := h
      exact ⟨h1, x, h2, row_own (β := Unit) _ _ (fun _ => _) () A B row h3 hg hr⟩) _) (ownFrom_below (Nat.le_refl _) (by omega)))
    ⟨rfl, Below.refl _ _⟩
    (fun x a' W => ∃ Bx, w.heap.size + 5 ≤ Bx ∧ W.heap[Bx]? = some (.cells #[.string x.n, .string x.v] 29 (0, 0)) ∧ a' = { tmps := #[.slice A l.length c, .string s, undef, undef, .pointer (some ⟨w.heap.size, 0, none⟩), .pointer (some ⟨Bx, 0, none⟩), .slice A l.length c, .string s, .slice (some ⟨w.heap.size + 1, 0, none⟩) 1 1, .func (.func 57) #[] #[.pointer (some ⟨w.heap.size + 1 + 1, 0, none⟩), .pointer (some ⟨w.heap.size + 1 + 1 + 1, 0, none⟩), .pointer (some ⟨w.heap.size + 1 + 1 + 1 + 1, 0, none⟩)], .agg #[.string x.n, .string x.v], undef, undef], defers := [] })
    (fun x a' _ A B row hs hg hr => by
      obtain ⟨Bx, i1, i2, i3⟩ := hs
      exact ⟨Bx, i1, row_own (β := Unit) Bx _ (fun _ => _) () A B row i2 hg (fun r e => (hr r e).2), i3⟩)
    ?assign ?body ?done ?stop
  case assign =>
    rintro lc pre x W K ⟨rfl, i2⟩ hK
    have hle := i2.size
    gi_wp2
    exact hK _ _ ((KeepsOthers.alloc _ _).from _) ((Below.refl _ _).alloc hle _) ⟨trivial, i2.alloc hle _⟩ ⟨W.heap.size, by omega, World.alloc_heap_new _ _, rfl⟩
  case body =>
    rintro lc pre x a' W hl0 _ ⟨rfl, i2⟩ ⟨Bx, j1, j2, rfl⟩ hlt
    obtain ⟨u0, u1⟩ := cells2 j2
    have i1 := (i2.block w.heap.size (by omega)).trans R0.out
    obtain ⟨v0, v1⟩ := cells1 i1
    have hBx : Bx ≠ w.heap.size := by omega
    gi_wp2
    exact ⟨(KeepsOthers.setCell _ _ _).from _, ⟨rfl, x, rfl, hset_cell i1⟩, (H0.out.trans (i2.mono (by omega))).setCell (Nat.le_refl _) _⟩
  case done =>
    rintro D ys W hD hys ⟨rfl, i2⟩ hK
    have i1 := (i2.block w.heap.size (by omega)).trans R0.out
    obtain ⟨v0, v1⟩ := cells1 i1
    have HG := Lib.hid (getL_none hys.symm)
    clear hys
    gi_wp2
    have hK' := (KeepsOthers.setCell W ⟨w.heap.size, 0, none⟩ (.string ⟨#[]⟩)).same D _ hK rfl
    refine ⟨by simp, .inl ⟨_, _, rfl, run_takeDeferred hK', ?_⟩⟩
    have hc5 := cell_kept (cells1 (hset_cell (y := .string ⟨#[]⟩) i1)).1 (grownBy_putObj' _ D (.deferred none)) (fun r e => by cases e; exact ⟨_, hK', rfl⟩)
    refine ⟨.string ⟨#[]⟩, ?_, by rw [HG.out], ((H0.out.trans (i2.mono (by omega))).setCell (p := ⟨w.heap.size, 0, none⟩) (Nat.le_refl _) _).trans (belowK_b (w := w) (Nat.le_refl _) _ D _ _ (by omega) hK' rfl rfl)⟩
    simp [results, Try.f12, go_sem, hc5]
  case stop =>
    rintro D cc pre W hD hpre ⟨⟨rfl, x, rfl, i1⟩, i2⟩ hK
    have HG := Lib.hid (getL_some hpre)
    clear hpre
    gi_wp2
    refine ⟨by simp, .inl ⟨_, _, rfl, run_takeDeferred hK, ?_⟩⟩
    have hc5 := cell_kept (cells1 i1).1 (grownBy_putObj' _ D (.deferred none)) (fun r e => by cases e; exact ⟨_, hK, rfl⟩)
    refine ⟨.string x.v, ?_, by rw [HG.out], i2.trans (belowK_b (w := w) (Nat.le_refl _) _ D _ _ (by omega) hK rfl rfl)⟩
    simp [results, Try.f12, go_sem, hc5]
theorem get_any (l : List Lb) (hl : l.length ≤ 100000) (s : ByteArray) (A : Option Addr) (c : Nat) (w : World) (hL : LS w w.heap.size A l) :
    Calls Try.prog 12 #[.slice A l.length c, .string s] w fun e W' => e = .returned (.string (getL l s)) ∧ Below w.heap.size w W' :=
  callsIn_wide.1 (get_in l hl s A c w hL)
end Go.Proofs.Ytbphhdmnfepbnaa.Lab
