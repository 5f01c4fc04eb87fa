/- Layer 6: frames; rows of 256 bools and more, whole; expressions in memory. -/
import Derived.WalkKit
import Derived.WalkSpells
import Derived.WalkLawsBesides
import Derived.Lib.Hide
import Derived.IntWalk
import Derived.KernelRfl
import Derived.Outline
import Derived.Below
import Derived.Laws.OwnMore
import Derived.Deep.Draws
import Derived.Deep.MidRow
import Derived.Deep.WholeRow
import Derived.Great.BuildSlice
import Derived.Great.Walk
import Derived.Laws.ResultCell
import Derived.Test.YtilfggnhaehbcaaRxI
import Derived.Test.YtilfggnhaehbcaaProg
set_option linter.unusedVariables false
set_option linter.unusedSimpArgs false
namespace Go.Proofs.Ytilfggnhaehbcaa.Rx
open Go.RowKit
/-- Nothing has turned but the blocks of S. -/
structure But (S : Nat → Prop) (w w' : World) : Prop where
  os : w'.os = w.os
  tape : w'.tape = w.tape
  output : w'.output = w.output
  size : w.heap.size ≤ w'.heap.size
  block : ∀ k, k < w.heap.size → ¬ S k → w'.heap[k]? = w.heap[k]?
theorem But.refl (S : Nat → Prop) (w : World) : But S w w := ⟨rfl, rfl, rfl, Nat.le_refl _, fun _ _ _ => rfl⟩
theorem But.trans {S S' : Nat → Prop} {a b c : World} (h : But S a b) (k : But S' b c) (hS : ∀ n, n < a.heap.size → S' n → S n) : But S a c :=
  ⟨k.os.trans h.os, k.tape.trans h.tape, k.output.trans h.output, Nat.le_trans h.size k.size, fun n hn hs => (k.block n (Nat.lt_of_lt_of_le hn h.size) (fun h' => hs (hS n hn h'))).trans (h.block n hn hs)⟩
theorem But.mono {S S' : Nat → Prop} {a b : World} (h : But S a b) (hS : ∀ n, n < a.heap.size → S n → S' n) : But S' a b := ⟨h.os, h.tape, h.output, h.size, fun n hn hs => h.block n hn (fun h' => hs (hS n hn h'))⟩
theorem But.of_below {S : Nat → Prop} {a b : World} (h : Below a.heap.size a b) : But S a b := ⟨h.os, h.tape, h.output, h.size, fun n hn _ => h.block n hn⟩
theorem But.below {S : Nat → Prop} {B : Nat} {a b : World} (h : But S a b) (hB : B ≤ a.heap.size) (hS : ∀ n, S n → B ≤ n) : Below B a b := ⟨h.os, h.tape, h.output, h.size, fun n hn => h.block n (by omega) (fun hs => by have := hS n hs; omega)⟩
theorem But.alloc {S : Nat → Prop} {a b : World} (h : But S a b) (o : Obj) : But S a (b.alloc o) := h.trans (But.of_below (S := S) ((Below.refl _ _).alloc (Nat.le_refl _) o)) (fun _ _ hs => hs)
theorem But.drew {S : Nat → Prop} {a b : World} (h : But S a b) : But S a b.drew := ⟨h.os, h.tape, h.output, h.size, h.block⟩
theorem But.setCell {S : Nat → Prop} {a b : World} (h : But S a b) {p : Addr} (hp : p.block < a.heap.size → S p.block) (u : Value) : But S a (b.setCell p u) :=
  ⟨h.os, h.tape, h.output, by rw [World.size_setCell]; exact h.size, fun n hn hs => by
    rw [Below.heap_setCell _ _ _ _ (fun e => hs (by subst e; exact hp hn))]
    exact h.block n hn hs⟩
theorem setRow_size (w : World) (g : Nat) (C : Array Value) : (w.setRow g C).heap.size = w.heap.size := by simp [World.setRow]
theorem setRow_other (w : World) (g k : Nat) (C : Array Value) (h : k ≠ g) : (w.setRow g C).heap[k]? = w.heap[k]? := by
  simp only [World.setRow, Array.getElem?_modify]
  rw [if_neg (fun e => h e.symm)]
theorem But.setRow {S : Nat → Prop} {a b : World} (h : But S a b) {g : Nat} (hp : g < a.heap.size → S g) (C : Array Value) : But S a (b.setRow g C) :=
  ⟨h.os, h.tape, h.output, by rw [setRow_size]; exact h.size, fun n hn hs => by
    rw [setRow_other _ _ _ _ (fun e => hs (by subst e; exact hp hn))]
    exact h.block n hn hs⟩
theorem But.grown {S : Nat → Prop} {a b c : World} {row : Option Nat} (h : But S a b) (hg : b.grownBy c row) (hr : ∀ k, row = some k → k < a.heap.size → S k) : But S a c :=
  h.trans (S' := fun k => row = some k) ⟨hg.os, hg.tape, hg.output, hg.size, fun k hk hs => hg.block k hk (fun e => hs e.symm)⟩ (fun n hn hs => hr n hs hn)
theorem But.cell {S : Nat → Prop} {a b : World} (h : But S a b) {p : Addr} (hp : p.block < a.heap.size) (hs : ¬ S p.block) : b.cell? p = a.cell? p := World.cell?_of_block (w := a) (h.block _ hp hs)
theorem But.frozen {S : Nat → Prop} {a b : World} (h : But S a b) {p : Addr} (hp : p.block < a.heap.size) (hs : ¬ S p.block) : b.frozen? p = a.frozen? p := World.frozen?_of_block (w := a) (h.block _ hp hs)
/-- The blocks that came between two worlds. -/
def Fresh (w w' : World) (k : Nat) : Prop := w.heap.size ≤ k ∧ k < w'.heap.size

/-- The cells of a set of bytes. -/
def clsC (f : UInt8 → Bool) : List Value := (List.range 256).map fun k => .bool (f (UInt8.ofNat k))
theorem clsC_len (f : UInt8 → Bool) : (clsC f).length = 256 := by simp [clsC]
theorem clsC_at (f : UInt8 → Bool) {k : Nat} (h : k < 256) : (clsC f)[k]? = some (.bool (f (UInt8.ofNat k))) := by
  unfold clsC
  rw [List.getElem?_map, List.getElem?_range h]
  rfl
theorem clsC_one (f : UInt8 → Bool) : ∀ v ∈ clsC f, v.oneCell' = true := by
  intro v hv
  obtain ⟨k, _, rfl⟩ := List.mem_map.1 hv
  rfl
theorem clsC_set (f : UInt8 → Bool) {k : Nat} (hk : k < 256) (b : Bool) : (clsC f).set k (.bool b) = clsC (fun x => if x.toNat = k then b else f x) := by
  apply List.ext_getElem?
  intro j
  rw [List.getElem?_set]
  by_cases hj : j < 256
  · rw [clsC_at _ hj, clsC_at _ hj]
    have e : (UInt8.ofNat j).toNat = j := by simp; omega
    by_cases hjk : k = j
    · subst hjk
      rw [if_pos rfl, clsC_len, if_pos hk, e, if_pos rfl]
    · rw [if_neg hjk, e, if_neg (fun h => hjk h.symm)]
  · have h1 : ∀ g, (clsC g)[j]? = none := fun g => List.getElem?_eq_none (by rw [clsC_len]; omega)
    rw [h1, h1]
    split
    · split
      · rename_i h2 h3
        rw [clsC_len] at h3
        omega
      · rfl
    · rfl
theorem clsC_ext {f g : UInt8 → Bool} (h : ∀ x, f x = g x) : clsC f = clsC g := by rw [show f = g from funext h]
/-- The row of block g. -/
def Blk (w : World) (g : Nat) (t : TypeId) (l : List Value) : Prop := w.heap[g]? = some (.cells l.toArray t (0, 0))
theorem Blk.lt {w : World} {g : Nat} {t : TypeId} {l : List Value} (h : Blk w g t l) : g < w.heap.size := (Array.getElem?_eq_some_iff.1 h).1
theorem Blk.cell {w : World} {g : Nat} {t : TypeId} {l : List Value} (h : Blk w g t l) (j : Nat) : w.cell? ⟨g, j, none⟩ = l[j]? := by
  rw [cell_of_row w g j _ t (0, 0) h]
  simp
theorem Blk.froz {w : World} {g : Nat} {t : TypeId} {l : List Value} (h : Blk w g t l) (j : Nat) : w.frozen? ⟨g, j, none⟩ = false := by
  simp [World.frozen?, show w.heap[g]? = _ from h]
theorem Blk.range {w : World} {g : Nat} {t : TypeId} {l : List Value} (h : Blk w g t l) : w.rangeAt g 0 l := fun j v hv => by
  rw [Nat.zero_add, h.cell]
  exact hv
theorem Blk.part {w : World} {g : Nat} {t : TypeId} {l a b : List Value} (h : Blk w g t l) (e : l = a ++ b) : w.rangeAt g 0 a := fun j v hv => by
  rw [Nat.zero_add, h.cell, e, List.getElem?_append_left (List.getElem?_eq_some_iff.1 hv).1]
  exact hv
theorem Blk.but {S : Nat → Prop} {w w' : World} {g : Nat} {t : TypeId} {l : List Value} (h : Blk w g t l) (hb : But S w w') (hs : ¬ S g) : Blk w' g t l := (hb.block g h.lt hs).trans h
theorem Blk.below {B : Nat} {w w' : World} {g : Nat} {t : TypeId} {l : List Value} (h : Blk w g t l) (hb : Below B w w') (hs : g < B) : Blk w' g t l := (hb.block g hs).trans h
theorem Blk.new (w : World) (t : TypeId) (l : List Value) : Blk (w.alloc (.cells l.toArray t)) w.heap.size t l := heap_alloc_new w _
theorem Blk.alloc {w : World} {g : Nat} {t : TypeId} {l : List Value} (h : Blk w g t l) (o : Obj) : Blk (w.alloc o) g t l := (Below.heap_alloc w o g h.lt).trans h
theorem Blk.set {w : World} {g : Nat} {t : TypeId} {l : List Value} (h : Blk w g t l) (j : Nat) (u : Value) : Blk (w.setCell ⟨g, j, none⟩ u) g t (l.set j u) := by
  unfold Blk at *
  rw [setCell_eq_setRow w g j _ t (0, 0) u h, setRow_heap w g _ _ t _ h]
  simp
theorem Blk.setOther {w : World} {g : Nat} {t : TypeId} {l : List Value} (h : Blk w g t l) {p : Addr} (hp : p.block ≠ g) (u : Value) : Blk (w.setCell p u) g t l := (Below.heap_setCell w p u g (fun e => hp e.symm)).trans h
theorem Blk.setRow {w : World} {g : Nat} {t : TypeId} {l : List Value} (h : Blk w g t l) (l' : List Value) : Blk (w.setRow g l'.toArray) g t l' := setRow_heap w g _ _ t _ h
theorem Blk.setRowOther {w : World} {g k : Nat} {t : TypeId} {l : List Value} (h : Blk w g t l) (hk : k ≠ g) (C : Array Value) : Blk (w.setRow k C) g t l := (setRow_other w k g C (fun e => hk e.symm)).trans h
section
variable {P : Program}
/-- A variable of many cells. -/
theorem wpList_alloc_big {ops : Array Oper} {rest : List Oper} {o : Oper} {a : Act} {w : World} {Q : Exit → Act → World → Prop} (hgd : o.guard = none) (t : TypeId) (ho : o.op = .alloc t) (Z : List Value)
    (hz : (P.info? t).map (·.zero) = some (some (.agg Z.toArray)))
    (h : wpList P ops Q rest (a.put o.dst (.pointer (some ⟨w.heap.size, 0, none⟩))) (w.alloc (.cells Z.toArray t))) : wpList P ops Q (o :: rest) a w :=
  wpList_plain hgd fun _ hK => by
    unfold Oper.wp execOp
    cases hq : P.info? t with
    | none => rw [hq] at hz; cases hz
    | some i =>
      have hi : i.zero = some (.agg Z.toArray) := by rw [hq] at hz; simpa using hz
      simp [ho, Instr.alloc, zeroValue, typeInfo, hq, hi, newVar, newRow, run_newObj_alloc, Value.cells]
      exact hK _ _ h
/-- A row of many cells is stored whole. -/
theorem wpList_store_big {ops : Array Oper} {rest : List Oper} {o : Oper} {a : Act} {w : World} {Q : Exit → Act → World → Prop} (hgd : o.guard = none) (ty : TypeId) (x y : Operand) (ho : o.op = .store ty x y)
    (g : Nat) (l : List Value) (hx : a.eval x = .pointer (some ⟨g, 0, none⟩)) (hy : a.eval y = .agg l.toArray)
    (t : TypeId) (old : List Value) (hg : Blk w g t old) (hi : (P.info? ty).map (·.size) = some l.length)
    (hold : old.length = l.length) (h1 : ∀ v ∈ l, v.oneCell' = true)
    (h : wpList P ops Q rest (a.put o.dst undef) (w.setRow g l.toArray)) : wpList P ops Q (o :: rest) a w :=
  wpList_store_row hgd ty x y ho g l.toArray hx hy t old.toArray hg (by simpa using hi) (by simpa using hold) (all_oneCell_toArray h1) h
/-- A row of many cells is read whole. -/
theorem run_load_big (w : World) (b o : Nat) (ty : TypeId) (cs : List Value) (hc : w.rangeAt b o cs) (d : TypeDesc) (hu : P.underlying ty = some d) (hd : d.isRow = true) (hi : (P.info? ty).map (·.size) = some cs.length) :
    (Instr.loadAt ty (.pointer (some ⟨b, o, none⟩))).run P w = .ok (.agg cs.toArray) w := run_loadAt_mid w b o ty cs d hc hu hd hi
/-- A literal with its first part alone. -/
theorem splice (cs : List Value) : ∀ (off : Nat) (A : Array Value), off + cs.length ≤ A.size →
    ((cs.zipIdx off).foldl (fun A (c : Value × Nat) => A.setIfInBounds c.2 c.1) A).toList = A.toList.take off ++ cs ++ A.toList.drop (off + cs.length) := by
  induction cs with
  | nil => intro off A h; simp
  | cons c cs ih =>
    intro off A h
    rw [List.length_cons] at h
    rw [List.zipIdx_cons, List.foldl_cons, ih (off + 1) _ (by rw [Array.size_setIfInBounds]; omega)]
    simp only [Array.toList_setIfInBounds]
    have hl : off < A.toList.length := by rw [Array.length_toList]; omega
    rw [List.take_set, List.drop_set_of_lt (by omega), List.take_add_one, List.getElem?_eq_getElem hl]
    simp only [Option.toList_some]
    rw [List.set_append, if_neg (by rw [List.length_take]; omega), List.length_take, show off - min off A.toList.length = 0 by omega]
    rw [List.set_cons_zero, List.length_cons, show off + (cs.length + 1) = off + 1 + cs.length by omega]
    simp
end
end Go.Proofs.Ytilfggnhaehbcaa.Rx
