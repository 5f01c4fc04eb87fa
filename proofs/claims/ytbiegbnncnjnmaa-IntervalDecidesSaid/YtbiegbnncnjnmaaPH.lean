/- The program's reduced: what its blocks hold. -/
import Derived.Test.YtbiegbnncnjnmaaPG
set_option linter.unusedVariables false
set_option linter.unusedSimpArgs false
namespace Go.Proofs.Ytbiegbnncnjnmaa.Pro
open Go.RowKit

/-- Two numbers in two blocks, and the result's block. -/
structure R3 (w : World) (n1 n2 m1 m2 : Int) (V : World) : Prop where
  has : Has w [(w.heap.size, #[.int .u64 n1, .int .u64 n2], 65), (w.heap.size + 1, #[.int .u64 m1, .int .u64 m2], 65), (w.heap.size + 1 + 1, #[.int .i64 0, .int .i64 0], 23)] V
/-- A block of two cells that the call has laid behind those three. -/
structure Zb (w V : World) (g : Nat) (x y : Value) (t : TypeId) : Prop where
  row : V.heap[g]? = some (.cells #[x, y] t (0, 0))
  big : w.heap.size + 1 + 1 < g
theorem R3.start (w : World) (n1 n2 m1 m2 : Int) : R3 w n1 n2 m1 m2 (((w.alloc (.cells #[.int .u64 n1, .int .u64 n2] 65)).alloc (.cells #[.int .u64 m1, .int .u64 m2] 65)).alloc (.cells #[.int .i64 0, .int .i64 0] 23)) := by
  have h := (((Has.start w).alloc #[.int .u64 n1, .int .u64 n2] 65).alloc #[.int .u64 m1, .int .u64 m2] 65).alloc #[.int .i64 0, .int .i64 0] 23
  simp only [World.size_alloc] at h
  exact ⟨h.sub (by simp)⟩
theorem R3.step {w V V2 : World} {n1 n2 m1 m2 : Int} (hb : Below V.heap.size V V2) (h : R3 w n1 n2 m1 m2 V) : R3 w n1 n2 m1 m2 V2 := ⟨h.has.step hb⟩
theorem R3.drew {w V : World} {n1 n2 m1 m2 : Int} (h : R3 w n1 n2 m1 m2 V) : R3 w n1 n2 m1 m2 V.drew := ⟨h.has.drew⟩
theorem R3.alloc {w V : World} {n1 n2 m1 m2 : Int} (o : Obj) (h : R3 w n1 n2 m1 m2 V) : R3 w n1 n2 m1 m2 (V.alloc o) := ⟨h.has.step ((Below.refl _ _).alloc (Nat.le_refl _) _)⟩
theorem R3.lt {w V : World} {n1 n2 m1 m2 : Int} (h : R3 w n1 n2 m1 m2 V) : w.heap.size + 1 + 1 < V.heap.size := h.has.lt (x := (w.heap.size + 1 + 1, #[.int .i64 0, .int .i64 0], 23)) (by simp)
theorem R3.store {w V : World} {n1 n2 m1 m2 : Int} {g : Nat} (x y : Value) (hg : w.heap.size + 1 + 1 < g) (h : R3 w n1 n2 m1 m2 V) : R3 w n1 n2 m1 m2 ((V.setCell ⟨g, 0, none⟩ x).setCell ⟨g, 1, none⟩ y) := by
  refine ⟨(h.has.1.setCell (by simp; omega) _).setCell (by simp; omega) _, fun z hz => ?_⟩
  rw [heap_setCell_other _ _ _ _ (by simp at hz; rcases hz with rfl | rfl | rfl <;> simp <;> omega), heap_setCell_other _ _ _ _ (by simp at hz; rcases hz with rfl | rfl | rfl <;> simp <;> omega)]
  exact h.has.2 z hz
theorem R3.all {w V : World} {n1 n2 m1 m2 : Int} (h : R3 w n1 n2 m1 m2 V) :
    R3 w n1 n2 m1 m2 V ∧ V.cell? ⟨w.heap.size, 0, none⟩ = some (.int .u64 n1) ∧ V.cell? ⟨w.heap.size, 1, none⟩ = some (.int .u64 n2) ∧ V.cell? ⟨w.heap.size + 1, 0, none⟩ = some (.int .u64 m1) ∧ V.cell? ⟨w.heap.size + 1, 1, none⟩ = some (.int .u64 m2) :=
  have ha := cells2 (h.has.row (b := w.heap.size) (cs := #[.int .u64 n1, .int .u64 n2]) (t := 65) (by simp))
  have hb := cells2 (h.has.row (b := w.heap.size + 1) (cs := #[.int .u64 m1, .int .u64 m2]) (t := 65) (by simp))
  ⟨h, ha.1, ha.2, hb.1, hb.2⟩
theorem R3.of {w V : World} {n1 n2 m1 m2 : Int} (h : R3 w n1 n2 m1 m2 V ∧ V.cell? ⟨w.heap.size, 0, none⟩ = some (.int .u64 n1) ∧ V.cell? ⟨w.heap.size, 1, none⟩ = some (.int .u64 n2) ∧ V.cell? ⟨w.heap.size + 1, 0, none⟩ = some (.int .u64 m1) ∧ V.cell? ⟨w.heap.size + 1, 1, none⟩ = some (.int .u64 m2)) : R3 w n1 n2 m1 m2 V := h.1
abbrev Zo : Obj := .cells #[.int .u64 0, .int .u64 0] 65
abbrev zw (w V : World) (g : Nat) : Prop := Zb w V g (.int .u64 0) (.int .u64 0) 65
/-- What is known of a block: its cells. -/
theorem Zb.all {w V : World} {g : Nat} {x y : Value} {t : TypeId} (h : Zb w V g x y t) : Zb w V g x y t ∧ V.cell? ⟨g, 0, none⟩ = some x ∧ V.cell? ⟨g, 1, none⟩ = some y ∧ V.frozen? ⟨g, 0, none⟩ = false ∧ V.frozen? ⟨g, 1, none⟩ = false ∧ g < V.heap.size :=
  ⟨h, (cells2 h.row).1, (cells2 h.row).2, (frozen2 h.row).1, (frozen2 h.row).2, (Array.getElem?_eq_some_iff.1 h.row).1⟩
theorem Zb.step {w V V2 : World} {g : Nat} {x y : Value} {t : TypeId} (hb : Below V.heap.size V V2) (h : Zb w V g x y t) : Zb w V2 g x y t := ⟨(hb.block _ (Array.getElem?_eq_some_iff.1 h.row).1).trans h.row, h.big⟩
theorem Zb.alloc {w V : World} {g : Nat} {x y : Value} {t : TypeId} (o : Obj) (h : Zb w V g x y t) : Zb w (V.alloc o) g x y t := ⟨(heap_alloc_old _ _ (Array.getElem?_eq_some_iff.1 h.row).1).trans h.row, h.big⟩
theorem Zb.drew {w V : World} {g : Nat} {x y : Value} {t : TypeId} (h : Zb w V g x y t) : Zb w V.drew g x y t := ⟨h.row, h.big⟩
theorem Zb.new {w V : World} (x y : Value) (t : TypeId) (h : w.heap.size + 1 + 1 < V.heap.size) : Zb w (V.alloc (.cells #[x, y] t)) V.heap.size x y t := ⟨heap_alloc_new _ _, h⟩
theorem Zb.new2 {w V : World} (o : Obj) (x y : Value) (t : TypeId) (h : w.heap.size + 1 + 1 < V.heap.size) : Zb w ((V.alloc o).alloc (.cells #[x, y] t)) (V.heap.size + 1) x y t := by
  have := Zb.new (V := V.alloc o) (w := w) x y t (by rw [World.size_alloc]; omega)
  rwa [World.size_alloc] at this
theorem Zb.set {w V : World} {g : Nat} {x y u v : Value} {t : TypeId} (h : Zb w V g x y t) : Zb w ((V.setCell ⟨g, 0, none⟩ u).setCell ⟨g, 1, none⟩ v) g u v t :=
  ⟨heap_setCell_same _ _ 1 _ _ v (heap_setCell_same _ _ 0 _ _ u h.row), h.big⟩
theorem Zb.other {w V : World} {g k : Nat} {x y u v : Value} {t : TypeId} (hk : g ≠ k) (h : Zb w V g x y t) : Zb w ((V.setCell ⟨k, 0, none⟩ u).setCell ⟨k, 1, none⟩ v) g x y t :=
  ⟨by rw [heap_setCell_other _ _ _ _ hk, heap_setCell_other _ _ _ _ hk]; exact h.row, h.big⟩
theorem R3.unalloc {w V : World} {n1 n2 m1 m2 : Int} {c : Array Value} (h : R3 w n1 n2 m1 m2 (V.alloc (.cells c 65))) : R3 w n1 n2 m1 m2 V := by
  have h3 := h.has.row (b := w.heap.size + 1 + 1) (cs := #[.int .i64 0, .int .i64 0]) (t := 23) (by simp)
  have hl := h.lt
  rw [World.size_alloc] at hl
  have hl2 : w.heap.size + 1 + 1 < V.heap.size := by
    rcases Nat.lt_or_ge (w.heap.size + 1 + 1) V.heap.size with h2 | h2
    · exact h2
    · have e : w.heap.size + 1 + 1 = V.heap.size := by omega
      rw [e, heap_alloc_new] at h3
      simp at h3
  have hb := h.has.1
  refine ⟨⟨hb.os, hb.tape, hb.output, by omega, fun k hk => ?_⟩, fun z hz => ?_⟩
  · have h5 := hb.block k hk
    rwa [heap_alloc_old _ _ (by omega)] at h5
  · have h5 := h.has.2 z hz
    rwa [heap_alloc_old _ _ (by simp at hz; rcases hz with rfl | rfl | rfl <;> simp <;> omega)] at h5
theorem R3.re1 {w V : World} {n1 n2 m1 m2 : Int} {c c' : Array Value} (h : R3 w n1 n2 m1 m2 (V.alloc (.cells c 65))) : R3 w n1 n2 m1 m2 (V.alloc (.cells c' 65)) := h.unalloc.alloc _
theorem R3.re2 {w V : World} {n1 n2 m1 m2 : Int} {c c' d d' : Array Value} (h : R3 w n1 n2 m1 m2 ((V.alloc (.cells c 65)).alloc (.cells d 65))) : R3 w n1 n2 m1 m2 ((V.alloc (.cells c' 65)).alloc (.cells d' 65)) := (h.unalloc.unalloc.alloc _).alloc _
theorem R3.undrew {w V : World} {n1 n2 m1 m2 : Int} (h : R3 w n1 n2 m1 m2 V.drew) : R3 w n1 n2 m1 m2 V := ⟨⟨⟨h.has.1.os, h.has.1.tape, h.has.1.output, h.has.1.size, h.has.1.block⟩, h.has.2⟩⟩
/-- Two such blocks. -/
structure ZZ (w V : World) (a b : Nat) : Prop where
  l : zw w V a
  r : zw w V b
  ne : a ≠ b
theorem ZZ.all {w V : World} {a b : Nat} (h : ZZ w V a b) : ZZ w V a b ∧ (zw w V a ∧ V.cell? ⟨a, 0, none⟩ = some (.int .u64 0) ∧ V.cell? ⟨a, 1, none⟩ = some (.int .u64 0) ∧ V.frozen? ⟨a, 0, none⟩ = false ∧ V.frozen? ⟨a, 1, none⟩ = false ∧ a < V.heap.size) ∧ (zw w V b ∧ V.cell? ⟨b, 0, none⟩ = some (.int .u64 0) ∧ V.cell? ⟨b, 1, none⟩ = some (.int .u64 0) ∧ V.frozen? ⟨b, 0, none⟩ = false ∧ V.frozen? ⟨b, 1, none⟩ = false ∧ b < V.heap.size) ∧ a ≠ b ∧ b ≠ a := ⟨h, h.l.all, h.r.all, h.ne, h.ne.symm⟩
/-- The same of a world that is kept in mind. -/
structure R3k (w : World) (n1 n2 m1 m2 : Int) (V : World) : Prop where
  out : R3 w n1 n2 m1 m2 V
theorem ZZ.mk2 {w V V2 : World} {n1 n2 m1 m2 : Int} (hb : Below ((V.alloc Zo).alloc Zo).heap.size ((V.alloc Zo).alloc Zo) V2) (h : R3 w n1 n2 m1 m2 ((V.alloc Zo).alloc Zo)) : ZZ w V2 V.heap.size (V.heap.size + 1) :=
  ⟨((Zb.new _ _ _ h.unalloc.unalloc.lt).alloc _).step hb, (Zb.new2 _ _ _ _ h.unalloc.unalloc.lt).step hb, by simp⟩
theorem ZZ.mk2d {w V V2 : World} {n1 n2 m1 m2 : Int} (hb : Below ((V.alloc Zo).alloc Zo).drew.heap.size ((V.alloc Zo).alloc Zo).drew V2) (h : R3 w n1 n2 m1 m2 ((V.alloc Zo).alloc Zo).drew) : ZZ w V2 V.heap.size (V.heap.size + 1) :=
  ⟨((Zb.new _ _ _ h.undrew.unalloc.unalloc.lt).alloc _).drew.step hb, (Zb.new2 _ _ _ _ h.undrew.unalloc.unalloc.lt).drew.step hb, by simp⟩
theorem Zb.mk1 {w V V2 : World} {n1 n2 m1 m2 : Int} (hb : Below (V.alloc Zo).heap.size (V.alloc Zo) V2) (h : R3 w n1 n2 m1 m2 (V.alloc Zo)) : zw w V2 V.heap.size := (Zb.new _ _ _ h.unalloc.lt).step hb
theorem Zb.mk1d {w V V2 : World} {n1 n2 m1 m2 : Int} (hb : Below (V.alloc Zo).drew.heap.size (V.alloc Zo).drew V2) (h : R3 w n1 n2 m1 m2 (V.alloc Zo).drew) : zw w V2 V.heap.size := (Zb.new _ _ _ h.undrew.unalloc.lt).drew.step hb
theorem Zb.lt {w V : World} {g : Nat} {x y : Value} {t : TypeId} (h : Zb w V g x y t) : g < V.heap.size := (Array.getElem?_eq_some_iff.1 h.row).1
theorem ZZ.mix {w V V2 : World} {n1 n2 m1 m2 : Int} {g : Nat} (hb : Below (V.alloc Zo).heap.size (V.alloc Zo) V2) (h : R3 w n1 n2 m1 m2 (V.alloc Zo)) (z : zw w V g) : ZZ w V2 g V.heap.size := ⟨(z.alloc _).step hb, Zb.mk1 hb h, Nat.ne_of_lt z.lt⟩
theorem ZZ.pass {w V V2 : World} {a b : Nat} (hb : Below V.heap.size V V2) (z : ZZ w V a b) : ZZ w V2 a b := ⟨z.l.step hb, z.r.step hb, z.ne⟩
/-- Behind reduced's first statement. -/
def R5 (w : World) (n1 n2 m1 m2 a1 a2 b1 b2 : Int) (v5 v6 : Value) (V : World) : Prop :=
  ∃ g k : Nat, v5 = .pointer (some ⟨g, 0, none⟩) ∧ v6 = .pointer (some ⟨k, 0, none⟩) ∧ g ≠ k ∧ R3 w n1 n2 m1 m2 V ∧ Zb w V g (.int .u64 a1) (.int .u64 a2) 65 ∧ Zb w V k (.int .u64 b1) (.int .u64 b2) 65

theorem R5.step {w V V2 : World} {n1 n2 m1 m2 a1 a2 b1 b2 : Int} {g k : Nat} (hb : Below V.heap.size V V2) (h : R3 w n1 n2 m1 m2 V ∧ Zb w V g (.int .u64 a1) (.int .u64 a2) 65 ∧ Zb w V k (.int .u64 b1) (.int .u64 b2) 65) :
    R3 w n1 n2 m1 m2 V2 ∧ Zb w V2 g (.int .u64 a1) (.int .u64 a2) 65 ∧ Zb w V2 k (.int .u64 b1) (.int .u64 b2) 65 := ⟨h.1.step hb, h.2.1.step hb, h.2.2.step hb⟩
theorem R5.l1 {w V : World} {n1 n2 m1 m2 a1 a2 b1 b2 : Int} (h : R3 w n1 n2 m1 m2 V) : R5 w n1 n2 m1 m2 a1 a2 b1 b2 (.pointer (some ⟨V.heap.size, 0, none⟩)) (.pointer (some ⟨V.heap.size + 1, 0, none⟩)) ((V.alloc (.cells #[.int .u64 a1, .int .u64 a2] 65)).alloc (.cells #[.int .u64 b1, .int .u64 b2] 65)) :=
  ⟨_, _, rfl, rfl, by simp, (h.alloc _).alloc _, (Zb.new _ _ _ h.lt).alloc _, Zb.new2 _ _ _ _ h.lt⟩
theorem R5.l2 {w V : World} {n1 n2 m1 m2 a1 a2 b1 b2 : Int} (h : R3 w n1 n2 m1 m2 V) : R5 w n1 n2 m1 m2 a1 a2 b1 b2 (.pointer (some ⟨V.heap.size + 1, 0, none⟩)) (.pointer (some ⟨V.heap.size, 0, none⟩)) ((V.alloc (.cells #[.int .u64 b1, .int .u64 b2] 65)).alloc (.cells #[.int .u64 a1, .int .u64 a2] 65)) :=
  ⟨_, _, rfl, rfl, by simp, (h.alloc _).alloc _, Zb.new2 _ _ _ _ h.lt, (Zb.new _ _ _ h.lt).alloc _⟩
theorem R5.l3 {w V : World} {n1 n2 m1 m2 a1 a2 b1 b2 : Int} {g : Nat} (h : R3 w n1 n2 m1 m2 V) (z : zw w V g) : R5 w n1 n2 m1 m2 a1 a2 b1 b2 (.pointer (some ⟨g, 0, none⟩)) (.pointer (some ⟨V.heap.size, 0, none⟩)) (((V.setCell ⟨g, 0, none⟩ (.int .u64 a1)).setCell ⟨g, 1, none⟩ (.int .u64 a2)).alloc (.cells #[.int .u64 b1, .int .u64 b2] 65)) :=
  ⟨_, _, rfl, rfl, Nat.ne_of_lt z.lt, (h.store _ _ z.big).alloc _, (z.set).alloc _, by
    have := Zb.new (V := (V.setCell ⟨g, 0, none⟩ (.int .u64 a1)).setCell ⟨g, 1, none⟩ (.int .u64 a2)) (w := w) (.int .u64 b1) (.int .u64 b2) 65 (by simp; exact h.lt)
    simpa using this⟩
theorem R5.l4 {w V : World} {n1 n2 m1 m2 a1 a2 b1 b2 : Int} {g : Nat} (h : R3 w n1 n2 m1 m2 V) (z : zw w V g) : R5 w n1 n2 m1 m2 a1 a2 b1 b2 (.pointer (some ⟨V.heap.size, 0, none⟩)) (.pointer (some ⟨g, 0, none⟩)) (((V.setCell ⟨g, 0, none⟩ (.int .u64 b1)).setCell ⟨g, 1, none⟩ (.int .u64 b2)).alloc (.cells #[.int .u64 a1, .int .u64 a2] 65)) :=
  ⟨_, _, rfl, rfl, Nat.ne_of_gt z.lt, (h.store _ _ z.big).alloc _, by
    have := Zb.new (V := (V.setCell ⟨g, 0, none⟩ (.int .u64 b1)).setCell ⟨g, 1, none⟩ (.int .u64 b2)) (w := w) (.int .u64 a1) (.int .u64 a2) 65 (by simp; exact h.lt)
    simpa using this, (z.set).alloc _⟩
theorem R5.l5 {w V : World} {n1 n2 m1 m2 a1 a2 b1 b2 : Int} {g k : Nat} (h : R3 w n1 n2 m1 m2 V) (z : ZZ w V g k) : R5 w n1 n2 m1 m2 a1 a2 b1 b2 (.pointer (some ⟨g, 0, none⟩)) (.pointer (some ⟨k, 0, none⟩)) ((((V.setCell ⟨g, 0, none⟩ (.int .u64 a1)).setCell ⟨g, 1, none⟩ (.int .u64 a2)).setCell ⟨k, 0, none⟩ (.int .u64 b1)).setCell ⟨k, 1, none⟩ (.int .u64 b2)) :=
  ⟨_, _, rfl, rfl, z.ne, (h.store _ _ z.l.big).store _ _ z.r.big, (z.l.set).other z.ne, (z.r.other z.ne.symm).set⟩
theorem R5.l6 {w V : World} {n1 n2 m1 m2 a1 a2 b1 b2 : Int} {g k : Nat} (h : R3 w n1 n2 m1 m2 V) (z : ZZ w V k g) : R5 w n1 n2 m1 m2 a1 a2 b1 b2 (.pointer (some ⟨g, 0, none⟩)) (.pointer (some ⟨k, 0, none⟩)) ((((V.setCell ⟨g, 0, none⟩ (.int .u64 a1)).setCell ⟨g, 1, none⟩ (.int .u64 a2)).setCell ⟨k, 0, none⟩ (.int .u64 b1)).setCell ⟨k, 1, none⟩ (.int .u64 b2)) :=
  R5.l5 h ⟨z.r, z.l, z.ne.symm⟩
/-- The blocks ahead of reduced's fifth statement. -/
structure R7 (w : World) (n1 n2 m1 m2 : Int) (g k : Nat) (c1 c2 d1 d2 : Int) (V : World) : Prop where
  r : R3 w n1 n2 m1 m2 V
  zg : Zb w V g (.int .u64 c1) (.int .u64 c2) 65
  zk : Zb w V k (.int .u64 d1) (.int .u64 d2) 65
theorem R7.step {w V V2 : World} {n1 n2 m1 m2 c1 c2 d1 d2 : Int} {g k : Nat} (hb : Below V.heap.size V V2) (h : R7 w n1 n2 m1 m2 g k c1 c2 d1 d2 V) : R7 w n1 n2 m1 m2 g k c1 c2 d1 d2 V2 := ⟨h.r.step hb, h.zg.step hb, h.zk.step hb⟩
theorem R7.drew {w V : World} {n1 n2 m1 m2 c1 c2 d1 d2 : Int} {g k : Nat} (h : R7 w n1 n2 m1 m2 g k c1 c2 d1 d2 V) : R7 w n1 n2 m1 m2 g k c1 c2 d1 d2 V.drew := ⟨h.r.drew, h.zg.drew, h.zk.drew⟩
theorem R7.alloc {w V : World} {n1 n2 m1 m2 c1 c2 d1 d2 : Int} {g k : Nat} (o : Obj) (h : R7 w n1 n2 m1 m2 g k c1 c2 d1 d2 V) : R7 w n1 n2 m1 m2 g k c1 c2 d1 d2 (V.alloc o) := ⟨h.r.alloc o, h.zg.alloc o, h.zk.alloc o⟩
theorem R7.all {w V : World} {n1 n2 m1 m2 c1 c2 d1 d2 : Int} {g k : Nat} (h : R7 w n1 n2 m1 m2 g k c1 c2 d1 d2 V) :
    R7 w n1 n2 m1 m2 g k c1 c2 d1 d2 V ∧ V.cell? ⟨g, 0, none⟩ = some (.int .u64 c1) ∧ V.cell? ⟨g, 1, none⟩ = some (.int .u64 c2) ∧ V.cell? ⟨k, 0, none⟩ = some (.int .u64 d1) ∧ V.cell? ⟨k, 1, none⟩ = some (.int .u64 d2) :=
  ⟨h, h.zg.all.2.1, h.zg.all.2.2.1, h.zk.all.2.1, h.zk.all.2.2.1⟩
/-- Where a store into a block that was laid later leaves it. -/
theorem R7.store {w V : World} {n1 n2 m1 m2 c1 c2 d1 d2 : Int} {g k h : Nat} (x y : Value) (hh : w.heap.size + 1 + 1 < h ∧ g ≠ h ∧ k ≠ h) (H : R7 w n1 n2 m1 m2 g k c1 c2 d1 d2 V) : R7 w n1 n2 m1 m2 g k c1 c2 d1 d2 ((V.setCell ⟨h, 0, none⟩ x).setCell ⟨h, 1, none⟩ y) := ⟨H.r.store x y hh.1, H.zg.other hh.2.1, H.zk.other hh.2.2⟩
structure R7k (w : World) (n1 n2 m1 m2 : Int) (g k : Nat) (c1 c2 d1 d2 : Int) (V : World) : Prop where
  out : R7 w n1 n2 m1 m2 g k c1 c2 d1 d2 V
/-- A block behind all those. -/
structure Zn (w V : World) (g k h : Nat) (x y : Int) : Prop where
  z : Zb w V h (.int .i64 x) (.int .i64 y) 23
  ne : w.heap.size + 1 + 1 < h ∧ g ≠ h ∧ k ≠ h
theorem Zn.new {w V : World} {n1 n2 m1 m2 c1 c2 d1 d2 : Int} {g k : Nat} (x y : Int) (h : R7 w n1 n2 m1 m2 g k c1 c2 d1 d2 V) : Zn w (V.alloc (.cells #[.int .i64 x, .int .i64 y] 23)) g k V.heap.size x y :=
  ⟨Zb.new _ _ _ h.r.lt, h.r.lt, Nat.ne_of_lt h.zg.lt, Nat.ne_of_lt h.zk.lt⟩
theorem Zn.step {w V V2 : World} {g k h : Nat} {x y : Int} (hb : Below V.heap.size V V2) (z : Zn w V g k h x y) : Zn w V2 g k h x y := ⟨z.z.step hb, z.ne⟩
theorem Zn.drew {w V : World} {g k h : Nat} {x y : Int} (z : Zn w V g k h x y) : Zn w V.drew g k h x y := ⟨z.z.drew, z.ne⟩
theorem Zn.all {w V : World} {g k h : Nat} {x y : Int} (z : Zn w V g k h x y) : Zn w V g k h x y ∧ V.cell? ⟨h, 0, none⟩ = some (.int .i64 x) ∧ V.cell? ⟨h, 1, none⟩ = some (.int .i64 y) ∧ V.frozen? ⟨h, 0, none⟩ = false ∧ V.frozen? ⟨h, 1, none⟩ = false := ⟨z, z.z.all.2.1, z.z.all.2.2.1, z.z.all.2.2.2.1, z.z.all.2.2.2.2.1⟩
theorem Zn.set {w V : World} {g k h : Nat} {x y : Int} (u v : Int) (z : Zn w V g k h x y) : Zn w ((V.setCell ⟨h, 0, none⟩ (.int .i64 u)).setCell ⟨h, 1, none⟩ (.int .i64 v)) g k h u v := ⟨z.z.set, z.ne⟩
/-- The blocks behind reduced's fifth statement. -/
structure R8 (w : World) (n1 n2 m1 m2 : Int) (h : Nat) (x y : Int) (V : World) : Prop where
  r : R3 w n1 n2 m1 m2 V
  z : Zb w V h (.int .i64 x) (.int .i64 y) 23
theorem R8.step {w V V2 : World} {n1 n2 m1 m2 x y : Int} {h : Nat} (hb : Below V.heap.size V V2) (H : R8 w n1 n2 m1 m2 h x y V) : R8 w n1 n2 m1 m2 h x y V2 := ⟨H.r.step hb, H.z.step hb⟩
theorem R8.drew {w V : World} {n1 n2 m1 m2 x y : Int} {h : Nat} (H : R8 w n1 n2 m1 m2 h x y V) : R8 w n1 n2 m1 m2 h x y V.drew := ⟨H.r.drew, H.z.drew⟩
theorem R8.all {w V : World} {n1 n2 m1 m2 x y : Int} {h : Nat} (H : R8 w n1 n2 m1 m2 h x y V) :
    R8 w n1 n2 m1 m2 h x y V ∧ V.cell? ⟨w.heap.size, 0, none⟩ = some (.int .u64 n1) ∧ V.cell? ⟨w.heap.size, 1, none⟩ = some (.int .u64 n2) ∧ V.cell? ⟨w.heap.size + 1, 0, none⟩ = some (.int .u64 m1) ∧ V.cell? ⟨w.heap.size + 1, 1, none⟩ = some (.int .u64 m2) := ⟨H, H.r.all.2⟩
structure R8k (w : World) (n1 n2 m1 m2 : Int) (h : Nat) (x y : Int) (V : World) : Prop where
  out : R8 w n1 n2 m1 m2 h x y V
theorem R3.rowC {w V : World} {n1 n2 m1 m2 : Int} (h : R3 w n1 n2 m1 m2 V) : V.heap[w.heap.size + 1 + 1]? = some (.cells #[.int .i64 0, .int .i64 0] 23 (0, 0)) := h.has.row (by simp)
/-- How reduced ends, by how narrow ends. -/
def redE (ea eb : Option Int) (st : Bool) : Ending :=
  match ea, eb with
  | some x, some y => .returned (.agg #[.int .i64 (if st then x else -x), .int .i64 y])
  | _, _ => over
/-- How narrow ends. -/
def narE (ea : Option Int) : Ending := match ea with
  | some x => .returned (.int .i64 x)
  | none => over
end Go.Proofs.Ytbiegbnncnjnmaa.Pro
