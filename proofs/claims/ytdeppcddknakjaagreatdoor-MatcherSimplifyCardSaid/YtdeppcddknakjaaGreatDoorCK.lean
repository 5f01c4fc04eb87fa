
/- Layer 6: frames; rows of 256 bools and more, whole; expressions in memory. Layer 6: factors and alternatives in memory. Layer 6: operations on whole rows, the worlds behind them as variables. -/
import Derived.WalkKit
import Derived.WalkSpells
import Derived.WalkLawsBesides
import Derived.Lib.Hide
import Derived.IntWalk
import Derived.KernelRfl
import Derived.Outline
import Derived.Below
import Derived.Laws.OwnMore
import Derived.Deep.Draws
import Derived.Deep.MidRow
import Derived.Deep.WholeRow
import Derived.Great.BuildSlice
import Derived.Great.Walk
import Derived.Laws.ResultCell
import Derived.Test.YtdeppcddknakjaaGreatDoorCRx
import Derived.Test.YtdeppcddknakjaaGreatDoorProg
set_option maxRecDepth 100000
set_option linter.unusedVariables false
set_option linter.unusedSimpArgs false
namespace Go.Proofs.YtdeppcddknakjaaGreatDoor.Rx
open Go.RowKit
/-- Nothing has turned but the blocks of S. -/
structure But (S : Nat → Prop) (w w' : World) : Prop where
 os : w'.os = w.os
 tape : w'.tape = w.tape
 output : w'.output = w.output
 size : w.heap.size ≤ w'.heap.size
 block : ∀ k, k < w.heap.size → ¬ S k → w'.heap[k]? = w.heap[k]?
theorem But.refl (S : Nat → Prop) (w : World) : But S w w := ⟨rfl, rfl, rfl, Nat.le_refl _, fun _ _ _ => rfl⟩
theorem But.trans {S S' : Nat → Prop} {a b c : World} (h : But S a b) (k : But S' b c) (hS : ∀ n, n < a.heap.size → S' n → S n) : But S a c :=
 ⟨k.os.trans h.os, k.tape.trans h.tape, k.output.trans h.output, Nat.le_trans h.size k.size, fun n hn hs => (k.block n (Nat.lt_of_lt_of_le hn h.size) (fun h' => hs (hS n hn h'))).trans (h.block n hn hs)⟩
theorem But.mono {S S' : Nat → Prop} {a b : World} (h : But S a b) (hS : ∀ n, n < a.heap.size → S n → S' n) : But S' a b := ⟨h.os, h.tape, h.output, h.size, fun n hn hs => h.block n hn (fun h' => hs (hS n hn h'))⟩
theorem But.of_below {S : Nat → Prop} {a b : World} (h : Below a.heap.size a b) : But S a b := ⟨h.os, h.tape, h.output, h.size, fun n hn _ => h.block n hn⟩
theorem But.below {S : Nat → Prop} {B : Nat} {a b : World} (h : But S a b) (hB : B ≤ a.heap.size) (hS : ∀ n, S n → B ≤ n) : Below B a b := ⟨h.os, h.tape, h.output, h.size, fun n hn => h.block n (by omega) (fun hs => by have := hS n hs; omega)⟩
theorem But.alloc {S : Nat → Prop} {a b : World} (h : But S a b) (o : Obj) : But S a (b.alloc o) := h.trans (But.of_below (S := S) ((Below.refl _ _).alloc (Nat.le_refl _) o)) (fun _ _ hs => hs)
theorem But.drew {S : Nat → Prop} {a b : World} (h : But S a b) : But S a b.drew := ⟨h.os, h.tape, h.output, h.size, h.block⟩
theorem But.setCell {S : Nat → Prop} {a b : World} (h : But S a b) {p : Addr} (hp : p.block < a.heap.size → S p.block) (u : Value) : But S a (b.setCell p u) :=
 ⟨h.os, h.tape, h.output, by rw [World.size_setCell]; exact h.size, fun n hn hs => by
  rw [Below.heap_setCell _ _ _ _ (fun e => hs (by subst e; exact hp hn))]
  exact h.block n hn hs⟩
theorem setRow_size (w : World) (g : Nat) (C : Array Value) : (w.setRow g C).heap.size = w.heap.size := by simp [World.setRow]
theorem setRow_other (w : World) (g k : Nat) (C : Array Value) (h : k ≠ g) : (w.setRow g C).heap[k]? = w.heap[k]? := by
 simp only [World.setRow, Array.getElem?_modify]
 rw [if_neg (fun e => h e.symm)]
theorem But.setRow {S : Nat → Prop} {a b : World} (h : But S a b) {g : Nat} (hp : g < a.heap.size → S g) (C : Array Value) : But S a (b.setRow g C) :=
 ⟨h.os, h.tape, h.output, by rw [setRow_size]; exact h.size, fun n hn hs => by
  rw [setRow_other _ _ _ _ (fun e => hs (by subst e; exact hp hn))]
  exact h.block n hn hs⟩
theorem But.grown {S : Nat → Prop} {a b c : World} {row : Option Nat} (h : But S a b) (hg : b.grownBy c row) (hr : ∀ k, row = some k → k < a.heap.size → S k) : But S a c :=
 h.trans (S' := fun k => row = some k) ⟨hg.os, hg.tape, hg.output, hg.size, fun k hk hs => hg.block k hk (fun e => hs e.symm)⟩ (fun n hn hs => hr n hs hn)
theorem But.cell {S : Nat → Prop} {a b : World} (h : But S a b) {p : Addr} (hp : p.block < a.heap.size) (hs : ¬ S p.block) : b.cell? p = a.cell? p := World.cell?_of_block (w := a) (h.block _ hp hs)
theorem But.frozen {S : Nat → Prop} {a b : World} (h : But S a b) {p : Addr} (hp : p.block < a.heap.size) (hs : ¬ S p.block) : b.frozen? p = a.frozen? p := World.frozen?_of_block (w := a) (h.block _ hp hs)
/-- The blocks that came between two worlds. -/
def Fresh (w w' : World) (k : Nat) : Prop := w.heap.size ≤ k ∧ k < w'.heap.size

/-- The cells of a set of bytes. -/
def clsC (f : UInt8 → Bool) : List Value := (List.range 256).map fun k => .bool (f (UInt8.ofNat k))
theorem clsC_len (f : UInt8 → Bool) : (clsC f).length = 256 := by simp [clsC]
theorem clsC_at (f : UInt8 → Bool) {k : Nat} (h : k < 256) : (clsC f)[k]? = some (.bool (f (UInt8.ofNat k))) := by
 unfold clsC
 rw [List.getElem?_map, List.getElem?_range h]
 rfl
theorem clsC_one (f : UInt8 → Bool) : ∀ v ∈ clsC f, v.oneCell' = true := by
 intro v hv
 obtain ⟨k, _, rfl⟩ := List.mem_map.1 hv
 rfl
theorem clsC_set (f : UInt8 → Bool) {k : Nat} (hk : k < 256) (b : Bool) : (clsC f).set k (.bool b) = clsC (fun x => if x.toNat = k then b else f x) := by
 apply List.ext_getElem?
 intro j
 rw [List.getElem?_set]
 by_cases hj : j < 256
 ·rw [clsC_at _ hj, clsC_at _ hj]
  have e : (UInt8.ofNat j).toNat = j := by simp; omega
  by_cases hjk : k = j
  ·subst hjk
   rw [if_pos rfl, clsC_len, if_pos hk, e, if_pos rfl]
  ·rw [if_neg hjk, e, if_neg (fun h => hjk h.symm)]
 ·have h1 : ∀ g, (clsC g)[j]? = none := fun g => List.getElem?_eq_none (by rw [clsC_len]; omega)
  rw [h1, h1]
  split
  ·split
   ·rename_i h2 h3
    rw [clsC_len] at h3
    omega
   ·rfl
  ·rfl
theorem clsC_ext {f g : UInt8 → Bool} (h : ∀ x, f x = g x) : clsC f = clsC g := by rw [show f = g from funext h]
/-- The row of block g. -/
def Blk (w : World) (g : Nat) (t : TypeId) (l : List Value) : Prop := w.heap[g]? = some (.cells l.toArray t (0, 0))
theorem Blk.lt {w : World} {g : Nat} {t : TypeId} {l : List Value} (h : Blk w g t l) : g < w.heap.size := (Array.getElem?_eq_some_iff.1 h).1
theorem Blk.cell {w : World} {g : Nat} {t : TypeId} {l : List Value} (h : Blk w g t l) (j : Nat) : w.cell? ⟨g, j, none⟩ = l[j]? := by
 rw [cell_of_row w g j _ t (0, 0) h]
 simp
theorem Blk.froz {w : World} {g : Nat} {t : TypeId} {l : List Value} (h : Blk w g t l) (j : Nat) : w.frozen? ⟨g, j, none⟩ = false := by
 simp [World.frozen?, show w.heap[g]? = _ from h]
theorem Blk.range {w : World} {g : Nat} {t : TypeId} {l : List Value} (h : Blk w g t l) : w.rangeAt g 0 l := fun j v hv => by
 rw [Nat.zero_add, h.cell]
 exact hv
theorem Blk.part {w : World} {g : Nat} {t : TypeId} {l a b : List Value} (h : Blk w g t l) (e : l = a ++ b) : w.rangeAt g 0 a := fun j v hv => by
 rw [Nat.zero_add, h.cell, e, List.getElem?_append_left (List.getElem?_eq_some_iff.1 hv).1]
 exact hv
theorem Blk.but {S : Nat → Prop} {w w' : World} {g : Nat} {t : TypeId} {l : List Value} (h : Blk w g t l) (hb : But S w w') (hs : ¬ S g) : Blk w' g t l := (hb.block g h.lt hs).trans h
theorem Blk.below {B : Nat} {w w' : World} {g : Nat} {t : TypeId} {l : List Value} (h : Blk w g t l) (hb : Below B w w') (hs : g < B) : Blk w' g t l := (hb.block g hs).trans h
theorem Blk.new (w : World) (t : TypeId) (l : List Value) : Blk (w.alloc (.cells l.toArray t)) w.heap.size t l := heap_alloc_new w _
theorem Blk.alloc {w : World} {g : Nat} {t : TypeId} {l : List Value} (h : Blk w g t l) (o : Obj) : Blk (w.alloc o) g t l := (Below.heap_alloc w o g h.lt).trans h
theorem Blk.set {w : World} {g : Nat} {t : TypeId} {l : List Value} (h : Blk w g t l) (j : Nat) (u : Value) : Blk (w.setCell ⟨g, j, none⟩ u) g t (l.set j u) := by
 unfold Blk at *
 rw [setCell_eq_setRow w g j _ t (0, 0) u h, setRow_heap w g _ _ t _ h]
 simp
theorem Blk.setOther {w : World} {g : Nat} {t : TypeId} {l : List Value} (h : Blk w g t l) {p : Addr} (hp : p.block ≠ g) (u : Value) : Blk (w.setCell p u) g t l := (Below.heap_setCell w p u g (fun e => hp e.symm)).trans h
theorem Blk.setRow {w : World} {g : Nat} {t : TypeId} {l : List Value} (h : Blk w g t l) (l' : List Value) : Blk (w.setRow g l'.toArray) g t l' := setRow_heap w g _ _ t _ h
section
variable {P : Program}
/-- A variable of many cells. -/
theorem wpList_alloc_big {ops : Array Oper} {rest : List Oper} {o : Oper} {a : Act} {w : World} {Q : Exit → Act → World → Prop} (hgd : o.guard = none) (t : TypeId) (ho : o.op = .alloc t) (Z : List Value)
  (hz : (P.info? t).map (·.zero) = some (some (.agg Z.toArray)))
  (h : wpList P ops Q rest (a.put o.dst (.pointer (some ⟨w.heap.size, 0, none⟩))) (w.alloc (.cells Z.toArray t))) : wpList P ops Q (o :: rest) a w :=
 wpList_plain hgd fun _ hK => by
  unfold Oper.wp execOp
  cases hq : P.info? t with
  | none => rw [hq] at hz; cases hz
  | some i =>
   have hi : i.zero = some (.agg Z.toArray) := by rw [hq] at hz; simpa using hz
   simp [ho, Instr.alloc, zeroValue, typeInfo, hq, hi, newVar, newRow, run_newObj_alloc, Value.cells]
   exact hK _ _ h
/-- A row of many cells is stored whole. -/
theorem wpList_store_big {ops : Array Oper} {rest : List Oper} {o : Oper} {a : Act} {w : World} {Q : Exit → Act → World → Prop} (hgd : o.guard = none) (ty : TypeId) (x y : Operand) (ho : o.op = .store ty x y)
  (g : Nat) (l : List Value) (hx : a.eval x = .pointer (some ⟨g, 0, none⟩)) (hy : a.eval y = .agg l.toArray)
  (t : TypeId) (old : List Value) (hg : Blk w g t old) (hi : (P.info? ty).map (·.size) = some l.length)
  (hold : old.length = l.length) (h1 : ∀ v ∈ l, v.oneCell' = true)
  (h : wpList P ops Q rest (a.put o.dst undef) (w.setRow g l.toArray)) : wpList P ops Q (o :: rest) a w :=
 wpList_store_row hgd ty x y ho g l.toArray hx hy t old.toArray hg (by simpa using hi) (by simpa using hold) (all_oneCell_toArray h1) h
/-- A literal with its first part alone. -/
theorem splice (cs : List Value) : ∀ (off : Nat) (A : Array Value), off + cs.length ≤ A.size →
  ((cs.zipIdx off).foldl (fun A (c : Value × Nat) => A.setIfInBounds c.2 c.1) A).toList = A.toList.take off ++ cs ++ A.toList.drop (off + cs.length) := by
 induction cs with
 | nil => intro off A h; simp
 | cons c cs ih =>
  intro off A h
  rw [List.length_cons] at h
  rw [List.zipIdx_cons, List.foldl_cons, ih (off + 1) _ (by rw [Array.size_setIfInBounds]; omega)]
  simp only [Array.toList_setIfInBounds]
  have hl : off < A.toList.length := by rw [Array.length_toList]; omega
  rw [List.take_set, List.drop_set_of_lt (by omega), List.take_add_one, List.getElem?_eq_getElem hl]
  simp only [Option.toList_some]
  rw [List.set_append, if_neg (by rw [List.length_take]; omega), List.length_take, show off - min off A.toList.length = 0 by omega]
  rw [List.set_cons_zero, List.length_cons, show off + (cs.length + 1) = off + 1 + cs.length by omega]
  simp
end
end Go.Proofs.YtdeppcddknakjaaGreatDoor.Rx
namespace Go.Proofs.YtdeppcddknakjaaGreatDoor.Rx
open Go.RowKit
/-- The cells of a factor. -/
def facL (f : UInt8 → Bool) (inner : Value) (lit : Bool) (letter rp : UInt8) : List Value := clsC f ++ [inner, .bool lit, .int .u8 letter.toNat, .int .u8 rp.toNat]
theorem facL_len (f : UInt8 → Bool) (inner : Value) (lit : Bool) (letter rp : UInt8) : (facL f inner lit letter rp).length = 260 := by unfold facL; rw [List.length_append, clsC_len]; rfl
theorem facL_at (f : UInt8 → Bool) (inner : Value) (lit : Bool) (letter rp : UInt8) :
  (facL f inner lit letter rp)[256]? = some inner ∧ (facL f inner lit letter rp)[257]? = some (.bool lit) ∧ (facL f inner lit letter rp)[258]? = some (.int .u8 letter.toNat) ∧ (facL f inner lit letter rp)[259]? = some (.int .u8 rp.toNat) := by
 have h : ∀ j, (facL f inner lit letter rp)[256 + j]? = [inner, .bool lit, .int .u8 letter.toNat, .int .u8 rp.toNat][j]? := fun j => by
  unfold facL
  rw [List.getElem?_append_right (by rw [clsC_len]; omega), clsC_len, Nat.add_sub_cancel_left]
 exact ⟨h 0, h 1, h 2, h 3⟩
theorem facL_rep (f : UInt8 → Bool) (inner : Value) (lit : Bool) (letter rp rp' : UInt8) : (facL f inner lit letter rp).set 259 (.int .u8 rp'.toNat) = facL f inner lit letter rp' := by
 unfold facL
 rw [List.set_append, if_neg (by rw [clsC_len]; omega), clsC_len]
 rfl
theorem facL_one (f : UInt8 → Bool) {inner : Value} (h : inner.oneCell' = true) (lit : Bool) (letter rp : UInt8) : ∀ v ∈ facL f inner lit letter rp, v.oneCell' = true := by
 intro v hv
 unfold facL at hv
 rcases List.mem_append.1 hv with hv | hv
 ·exact clsC_one f v hv
 ·simp only [List.mem_cons, List.not_mem_nil, or_false] at hv
  rcases hv with rfl | rfl | rfl | rfl
  ·exact h
  ·rfl
  ·rfl
  ·rfl
/-- The zero values. -/
theorem zero45 : (Tryz.prog.info? 162).map (·.zero) = some (some (.agg (clsC none_).toArray)) := by kernel_rfl
theorem zero47 : (Tryz.prog.info? 164).map (·.zero) = some (some (.agg (facL none_ (.slice none 0 0) false 0 0).toArray)) := by kernel_rfl
theorem size45 : (Tryz.prog.info? 162).map (·.size) = some 256 := by kernel_rfl
theorem size47 : (Tryz.prog.info? 164).map (·.size) = some 260 := by kernel_rfl
mutual
/-- A factor's cells, and what they lead to, in the blocks of T. -/
def PeV (w : World) (T : Nat → Prop) (C : List Value) : Pe → Prop
 | .byte c r => C = facL (fun x => x == c) (.slice none 0 0) true c r.b
 | .cls f r => C = facL f (.slice none 0 0) false 0 r.b
 | .sub e r => (e ≠ [] ∧ e.length ≤ 1001) ∧ ∃ b cap, C = facL none_ (.slice (some ⟨b, 0, none⟩) e.length cap) false 0 r.b ∧ T b ∧ AltsV w T b 0 e
/-- The alternatives from place k of block b on. -/
def AltsV (w : World) (T : Nat → Prop) (b : Nat) : Nat → List (List Pe) → Prop
 | _, [] => True
 | k, a :: e => (∃ A cap, w.cell? ⟨b, k, none⟩ = some (.slice A a.length cap) ∧ (a ≠ [] → ∃ g, A = some ⟨g, 0, none⟩ ∧ T g ∧ RowV w T g 0 a)) ∧ AltsV w T b (k + 1) e
/-- The factors from place k of block b on. -/
def RowV (w : World) (T : Nat → Prop) (b : Nat) : Nat → List Pe → Prop
 | _, [] => True
 | k, p :: l => (∃ C, w.rangeAt b (k * 260) C ∧ PeV w T C p) ∧ RowV w T b (k + 1) l
end
/-- A slice that reads as factors. -/
def FsV (w : World) (T : Nat → Prop) (A : Option Addr) (a : List Pe) : Prop := a ≠ [] → ∃ g, A = some ⟨g, 0, none⟩ ∧ T g ∧ RowV w T g 0 a
theorem rangeAt_keep {w w' : World} {b o : Nat} {C : List Value} (h : w.rangeAt b o C) (hk : ∀ j, w'.cell? ⟨b, j, none⟩ = w.cell? ⟨b, j, none⟩) : w'.rangeAt b o C := fun j v hv => (hk _).trans (h j v hv)
mutual
theorem PeV.keep {w w' : World} {T T' : Nat → Prop} {C : List Value} (hT : ∀ k, T k → T' k) (hk : ∀ b j, T b → w'.cell? ⟨b, j, none⟩ = w.cell? ⟨b, j, none⟩) : ∀ {p : Pe}, PeV w T C p → PeV w' T' C p
 | .byte c r, h => by rw [PeV] at h ⊢; exact h
 | .cls f r, h => by rw [PeV] at h ⊢; exact h
 | .sub e r, h => by
  rw [PeV] at h ⊢
  obtain ⟨h0, b, cap, h1, h2, h3⟩ := h
  exact ⟨h0, b, cap, h1, hT b h2, AltsV.keep hT hk (hk b · h2) h3⟩
theorem AltsV.keep {w w' : World} {T T' : Nat → Prop} {b : Nat} (hT : ∀ k, T k → T' k) (hk : ∀ b j, T b → w'.cell? ⟨b, j, none⟩ = w.cell? ⟨b, j, none⟩) (hb : ∀ j, w'.cell? ⟨b, j, none⟩ = w.cell? ⟨b, j, none⟩) : ∀ {k : Nat} {e : List (List Pe)}, AltsV w T b k e → AltsV w' T' b k e
 | k, [], h => by rw [AltsV]; trivial
 | k, a :: e, h => by
  rw [AltsV] at h ⊢
  obtain ⟨⟨A, cap, h1, h2⟩, h3⟩ := h
  refine ⟨⟨A, cap, (hb k).trans h1, fun ha => ?_⟩, AltsV.keep hT hk hb h3⟩
  obtain ⟨g, h4, h5, h6⟩ := h2 ha
  exact ⟨g, h4, hT g h5, RowV.keep hT hk (hk g · h5) h6⟩
theorem RowV.keep {w w' : World} {T T' : Nat → Prop} {b : Nat} (hT : ∀ k, T k → T' k) (hk : ∀ b j, T b → w'.cell? ⟨b, j, none⟩ = w.cell? ⟨b, j, none⟩) (hb : ∀ j, w'.cell? ⟨b, j, none⟩ = w.cell? ⟨b, j, none⟩) : ∀ {k : Nat} {l : List Pe}, RowV w T b k l → RowV w' T' b k l
 | k, [], h => by rw [RowV]; trivial
 | k, p :: l, h => by
  rw [RowV] at h ⊢
  obtain ⟨⟨C, h1, h2⟩, h3⟩ := h
  exact ⟨⟨C, rangeAt_keep h1 hb, PeV.keep hT hk h2⟩, RowV.keep hT hk hb h3⟩
end
theorem FsV.keep {w w' : World} {T T' : Nat → Prop} {A : Option Addr} {a : List Pe} (h : FsV w T A a) (hT : ∀ k, T k → T' k) (hk : ∀ b j, T b → w'.cell? ⟨b, j, none⟩ = w.cell? ⟨b, j, none⟩) : FsV w' T' A a := fun ha => by
 obtain ⟨g, h4, h5, h6⟩ := h ha
 exact ⟨g, h4, hT g h5, RowV.keep hT hk (hk g · h5) h6⟩
theorem RowV.at_ {w : World} {T : Nat → Prop} {b : Nat} : ∀ {k : Nat} {l : List Pe}, RowV w T b k l → ∀ j (hj : j < l.length), ∃ C, w.rangeAt b ((k + j) * 260) C ∧ PeV w T C l[j]
 | k, [], h, j, hj => by simp at hj
 | k, p :: l, h, 0, hj => by rw [RowV] at h; exact h.1
 | k, p :: l, h, j + 1, hj => by
  rw [RowV] at h
  have := RowV.at_ h.2 j (by simpa using hj)
  rw [show k + (j + 1) = k + 1 + j by omega]
  exact this
theorem RowV.of {w : World} {T : Nat → Prop} {b : Nat} : ∀ {k : Nat} {l : List Pe}, (∀ j (hj : j < l.length), ∃ C, w.rangeAt b ((k + j) * 260) C ∧ PeV w T C l[j]) → RowV w T b k l
 | k, [], h => by rw [RowV]; trivial
 | k, p :: l, h => by
  rw [RowV]
  refine ⟨h 0 (by simp), RowV.of fun j hj => ?_⟩
  have := h (j + 1) (by simpa using hj)
  rw [show k + (j + 1) = k + 1 + j by omega] at this
  exact this
theorem AltsV.at_ {w : World} {T : Nat → Prop} {b : Nat} : ∀ {k : Nat} {e : List (List Pe)}, AltsV w T b k e → ∀ j (hj : j < e.length), ∃ A cap, w.cell? ⟨b, k + j, none⟩ = some (.slice A e[j].length cap) ∧ FsV w T A e[j]
 | k, [], h, j, hj => by simp at hj
 | k, a :: e, h, 0, hj => by rw [AltsV] at h; exact h.1
 | k, a :: e, h, j + 1, hj => by
  rw [AltsV] at h
  have := AltsV.at_ h.2 j (by simpa using hj)
  rw [show k + (j + 1) = k + 1 + j by omega]
  exact this
theorem AltsV.of {w : World} {T : Nat → Prop} {b : Nat} : ∀ {k : Nat} {e : List (List Pe)}, (∀ j (hj : j < e.length), ∃ A cap, w.cell? ⟨b, k + j, none⟩ = some (.slice A e[j].length cap) ∧ FsV w T A e[j]) → AltsV w T b k e
 | k, [], h => by rw [AltsV]; trivial
 | k, a :: e, h => by
  rw [AltsV]
  refine ⟨h 0 (by simp), AltsV.of fun j hj => ?_⟩
  have := h (j + 1) (by simpa using hj)
  rw [show k + (j + 1) = k + 1 + j by omega] at this
  exact this
theorem PeV.len {w : World} {T : Nat → Prop} {C : List Value} {p : Pe} (h : PeV w T C p) : C.length = 260 ∧ ∀ v ∈ C, v.oneCell' = true := by
 cases p with
 | byte c r => rw [PeV] at h; subst h; exact ⟨facL_len _ _ _ _ _, facL_one _ rfl _ _ _⟩
 | cls c r => rw [PeV] at h; subst h; exact ⟨facL_len _ _ _ _ _, facL_one _ rfl _ _ _⟩
 | sub e r => rw [PeV] at h; obtain ⟨_, b, cap, rfl, _⟩ := h; exact ⟨facL_len _ _ _ _ _, facL_one _ rfl _ _ _⟩
/-- Factors as one list of cells. -/
def RowL (w : World) (T : Nat → Prop) (xs : List Value) (l : List Pe) : Prop := xs.length = l.length * 260 ∧ ∀ j (hj : j < l.length), ∃ C, (∀ i v, C[i]? = some v → xs[j * 260 + i]? = some v) ∧ PeV w T C l[j]
theorem RowL.nil (w : World) (T : Nat → Prop) : RowL w T [] [] := ⟨rfl, fun j hj => by simp at hj⟩
theorem RowL.keep {w w' : World} {T T' : Nat → Prop} {xs : List Value} {l : List Pe} (h : RowL w T xs l) (hT : ∀ k, T k → T' k) (hk : ∀ b j, T b → w'.cell? ⟨b, j, none⟩ = w.cell? ⟨b, j, none⟩) : RowL w' T' xs l :=
 ⟨h.1, fun j hj => by
  obtain ⟨C, h1, h2⟩ := h.2 j hj
  exact ⟨C, h1, PeV.keep hT hk h2⟩⟩
theorem RowL.snoc {w : World} {T : Nat → Prop} {xs C : List Value} {l : List Pe} {p : Pe} (h : RowL w T xs l) (hp : PeV w T C p) : RowL w T (xs ++ C) (l ++ [p]) := by
 refine ⟨by rw [List.length_append, h.1, hp.len.1, List.length_append, List.length_singleton, Nat.add_mul], fun j hj => ?_⟩
 rw [List.length_append, List.length_singleton] at hj
 rcases Nat.lt_or_ge j l.length with hlt | hge
 ·obtain ⟨D, h1, h2⟩ := h.2 j hlt
  refine ⟨D, fun i v hv => ?_, by rw [List.getElem_append_left hlt]; exact h2⟩
  have h3 := h1 i v hv
  rw [List.getElem?_append_left (List.getElem?_eq_some_iff.1 h3).1]
  exact h3
 ·obtain rfl : j = l.length := by omega
  refine ⟨C, fun i v hv => ?_, by rw [List.getElem_append_right (Nat.le_refl _)]; simpa using hp⟩
  rw [List.getElem?_append_right (by rw [h.1]; omega), h.1, Nat.add_sub_cancel_left]
  exact hv
/-- A row of the call's own that holds factors: as it reads later. -/
theorem FsV.of_own {w : World} {T : Nat → Prop} {B : Nat} {e : TypeId} {v : Value} {xs : List Value} {l : List Pe} (h : w.ownsRow B e 260 v l.length xs) (hl : RowL w T xs l) (hT : ∀ g, v.ownBlock = some g → T g) : ∃ A cap, v = .slice A l.length cap ∧ FsV w T A l := by
 rcases h.2 with ⟨rfl, h0⟩ | ⟨g, cap, cur, rfl, hr⟩
 ·exact ⟨none, 0, by rw [h0], fun hne => absurd (List.length_eq_zero_iff.1 h0) hne⟩
 ·refine ⟨_, _, rfl, fun hne => ⟨g, rfl, hT g rfl, RowV.of fun j hj => ?_⟩⟩
  obtain ⟨C, h1, h2⟩ := hl.2 j hj
  refine ⟨C, fun i u hu => ?_, h2⟩
  have hc := World.ownsRow.cells (g := g) h rfl _ _ (h1 i u hu)
  have e : ∀ i, (⟨g, 0, none⟩ : Addr).add i = ⟨g, 0 + i, none⟩ := fun i => by cases i <;> simp [Addr.add]
  rw [e, Nat.zero_add] at hc
  rw [Nat.zero_add]
  exact hc
/-- Alternatives as cells. -/
def AltL (w : World) (T : Nat → Prop) (xs : List Value) (e : List (List Pe)) : Prop := xs.length = e.length ∧ ∀ j (hj : j < e.length), ∃ A cap, xs[j]? = some (.slice A e[j].length cap) ∧ FsV w T A e[j]
theorem AltL.keep {w w' : World} {T T' : Nat → Prop} {xs : List Value} {e : List (List Pe)} (h : AltL w T xs e) (hT : ∀ k, T k → T' k) (hk : ∀ b j, T b → w'.cell? ⟨b, j, none⟩ = w.cell? ⟨b, j, none⟩) : AltL w' T' xs e :=
 ⟨h.1, fun j hj => by
  obtain ⟨A, cap, h1, h2⟩ := h.2 j hj
  exact ⟨A, cap, h1, h2.keep hT hk⟩⟩
theorem AltL.nil (w : World) (T : Nat → Prop) : AltL w T [] [] := ⟨rfl, fun j hj => by simp at hj⟩
theorem AltL.snoc {w : World} {T : Nat → Prop} {xs : List Value} {e : List (List Pe)} {a : List Pe} {A : Option Addr} {cap : Nat} (h : AltL w T xs e) (hp : FsV w T A a) : AltL w T (xs ++ [.slice A a.length cap]) (e ++ [a]) := by
 refine ⟨by simp [h.1], fun j hj => ?_⟩
 rw [List.length_append, List.length_singleton] at hj
 rcases Nat.lt_or_ge j e.length with hlt | hge
 ·obtain ⟨D, c, h1, h2⟩ := h.2 j hlt
  exact ⟨D, c, by rw [List.getElem_append_left hlt, List.getElem?_append_left (by rw [h.1]; exact hlt)]; exact h1, by rw [List.getElem_append_left hlt]; exact h2⟩
 ·obtain rfl : j = e.length := by omega
  refine ⟨A, cap, ?_, by rw [List.getElem_append_right (Nat.le_refl _)]; simpa using hp⟩
  rw [List.getElem?_append_right (by rw [h.1]; omega), h.1, List.getElem_append_right (Nat.le_refl _)]
  simp
theorem AltsV.of_own {w : World} {T : Nat → Prop} {B : Nat} {t : TypeId} {v : Value} {xs : List Value} {e : List (List Pe)} (h : w.ownsRow B t 1 v e.length xs) (hl : AltL w T xs e) (hT : ∀ g, v.ownBlock = some g → T g) (he : e ≠ []) : ∃ b cap, v = .slice (some ⟨b, 0, none⟩) e.length cap ∧ T b ∧ AltsV w T b 0 e := by
 rcases h.2 with ⟨rfl, h0⟩ | ⟨g, cap, cur, rfl, hr⟩
 ·exact absurd (List.length_eq_zero_iff.1 h0) he
 ·refine ⟨g, cap, rfl, hT g rfl, AltsV.of fun j hj => ?_⟩
  obtain ⟨A, c, h1, h2⟩ := hl.2 j hj
  refine ⟨A, c, ?_, h2⟩
  have hc := World.ownsRow.cells (g := g) h rfl _ _ h1
  have e : ∀ i, (⟨g, 0, none⟩ : Addr).add i = ⟨g, 0 + i, none⟩ := fun i => by cases i <;> simp [Addr.add]
  rw [e] at hc
  exact hc
end Go.Proofs.YtdeppcddknakjaaGreatDoor.Rx
namespace Go.Proofs.YtdeppcddknakjaaGreatDoor.Rx
open Go.RowKit
section
variable {P : Program}
/-- A variable of many cells. -/
theorem wpList_alloc_abs {ops : Array Oper} {rest : List Oper} {o : Oper} {a : Act} {w : World} {Q : Exit → Act → World → Prop} (hgd : o.guard = none) (t : TypeId) (ho : o.op = .alloc t) (Z : List Value)
  (hz : (P.info? t).map (·.zero) = some (some (.agg Z.toArray)))
  (h : ∀ g w', Hid (w.heap.size = g) → Hid (Blk w' g t Z) → Hid (Below w.heap.size w w') → Hid (w'.heap.size = g + 1) → wpList P ops Q rest (a.put o.dst (.pointer (some ⟨g, 0, none⟩))) w') : wpList P ops Q (o :: rest) a w :=
 wpList_alloc_big hgd t ho Z hz (h w.heap.size _ rfl (Blk.new w t Z) ((Below.refl _ _).alloc (Nat.le_refl _) _) (by show (World.alloc _ _).heap.size = _; rw [World.size_alloc]))
/-- A row of many cells is stored whole. -/
theorem wpList_store_abs {ops : Array Oper} {rest : List Oper} {o : Oper} {a : Act} {w : World} {Q : Exit → Act → World → Prop} (hgd : o.guard = none) (ty : TypeId) (x y : Operand) (ho : o.op = .store ty x y) (hd : o.dst = none)
  (g : Nat) (l : List Value) (hx : a.eval x = .pointer (some ⟨g, 0, none⟩)) (hy : a.eval y = .agg l.toArray)
  (t : TypeId) (old : List Value) (hg : Blk w g t old) (n : Nat) (hi : (P.info? ty).map (·.size) = some n) (hn : l.length = n)
  (hold : old.length = n) (h1 : ∀ v ∈ l, v.oneCell' = true)
  (h : ∀ w', Hid (Blk w' g t l) → Hid (But (· = g) w w') → Hid (w'.heap.size = w.heap.size) → wpList P ops Q rest a w') : wpList P ops Q (o :: rest) a w :=
 wpList_store_big hgd ty x y ho g l hx hy t old hg (hi.trans (by rw [hn])) (hold.trans hn.symm) h1 (by
  rw [hd]
  exact h _ (hg.setRow l) (But.setRow (S := (· = g)) (But.refl _ w) (fun _ => rfl) _) (setRow_size _ _ _))
/-- A row of many cells is read whole. -/
theorem wpList_load_abs {ops : Array Oper} {rest : List Oper} {o : Oper} {a : Act} {w : World} {Q : Exit → Act → World → Prop} (hgd : o.guard = none) (ty : TypeId) (x : Operand) (ho : o.op = .load ty x)
  (b off : Nat) (hx : a.eval x = .pointer (some ⟨b, off, none⟩)) (cs : List Value) (hc : w.rangeAt b off cs) (d : TypeDesc)
  (hu : P.underlying ty = some d) (hd : d.isRow = true) (n : Nat) (hi : (P.info? ty).map (·.size) = some n) (hn : cs.length = n)
  (h : wpList P ops Q rest (a.put o.dst (.agg cs.toArray)) w) : wpList P ops Q (o :: rest) a w :=
 wpList_load_mid hgd ty x ho b off hx cs d hc hu hd (hi.trans (by rw [hn])) h
/-- One cell of a row is stored. -/
theorem wpList_store_cell {ops : Array Oper} {rest : List Oper} {o : Oper} {a : Act} {w : World} {Q : Exit → Act → World → Prop} (hgd : o.guard = none) (ty : TypeId) (x y : Operand) (ho : o.op = .store ty x y) (hd : o.dst = none)
  (g j : Nat) (v : Value) (hx : a.eval x = .pointer (some ⟨g, j, none⟩)) (hy : a.eval y = v) (h1 : v.oneCell' = true)
  (t : TypeId) (l : List Value) (hg : Blk w g t l) (hj : j < l.length) (hi : (P.info? ty).map (·.size) = some 1)
  (h : ∀ w', Hid (Blk w' g t (l.set j v)) → Hid (But (· = g) w w') → Hid (w'.heap.size = w.heap.size) → wpList P ops Q rest a w') : wpList P ops Q (o :: rest) a w := by
 have hc : v.cells = #[v] := by cases v <;> first | rfl | cases h1
 have hcell : w.cell? ⟨g, j, none⟩ = some l[j] := by rw [hg.cell]; exact List.getElem?_eq_getElem hj
 have hfro := hg.froz j
 have hst : (storeVar ty ⟨g, j, none⟩ v).run P w = .ok () (w.setCell ⟨g, j, none⟩ v) := by
  have h0 := run_storeCells_cells (P := P) g j [v] 0 w (fun i hi => by
   have : i = 0 := by simpa using hi
   subst this
   simp [hcell]) (fun i hi => by
   have : i = 0 := by simpa using hi
   subst this
   simp [hfro]) (fun u hu => by simp only [List.mem_singleton] at hu; subst hu; exact h1)
  cases hq : P.info? ty with
  | none => rw [hq] at hi; cases hi
  | some i =>
   have hs : i.size = 1 := by rw [hq] at hi; simpa using hi
   simp only [Nat.add_zero] at h0
   simp [storeVar, sizeOf, typeInfo, hq, hc, hs, h0, World.setCells]
 refine wpList_plain hgd fun _ hK => ?_
 unfold Oper.wp execOp
 simp only [ho, hx, hy, Instr.storeAt, Instr.sureAddr, Sem.run_bind, Sem.run_pure, Result.andThen_ok, hst]
 refine hK _ _ ?_
 rw [hd]
 refine h _ (hg.set j v) (But.setCell (S := (· = g)) (But.refl _ w) (p := ⟨g, j, none⟩) (fun _ => rfl) v) ?_
 show (World.setCell _ _ _).heap.size = _
 rw [World.size_setCell]
/-- A literal: its cells said. -/
theorem wpList_build_abs {ops : Array Oper} {rest : List Oper} {o : Oper} {a : Act} {w : World} {Q : Exit → Act → World → Prop} (hg : o.guard = none) (t : TypeId) (parts : Array (Nat × Operand)) (ho : o.op = .build t parts)
  (vs : List (Nat × Value)) (hv : (parts.map fun (i, x) => (i, a.eval x)).toList = vs) (l : List Value) (hf : P.built t vs = some l.toArray)
  (h : wpList P ops Q rest (a.put o.dst (.agg l.toArray)) w) : wpList P ops Q (o :: rest) a w :=
 Go.wpList_buildTo hg t parts ho o.dst rfl l.toArray (by rw [hv]; exact hf) h
/-- A slice of one element of many cells. -/
theorem wpList_buildSlice_abs {ops : Array Oper} {rest : List Oper} {o : Oper} {a : Act} {w : World} {Q : Exit → Act → World → Prop} (hgd : o.guard = none) (t e : TypeId) (x : Operand) (ho : o.op = .buildSlice t 1 #[(0, x)])
  (l : List Value) (hx : a.eval x = .agg l.toArray) (n : Nat) (hn : l.length = n) (h0 : 0 < n) (hsm : n ≤ 2 ^ 24) (z : Value)
  (hu : P.underlying t = some (.slice e)) (hi : (P.info? e).map (fun i => (i.zero, i.size)) = some (some z, n))
  (h : ∀ g w', Hid (w.heap.size = g) → Hid (Blk w' g e l) → Hid (Below w.heap.size w w') → Hid (w'.heap.size = g + 1) → wpList P ops Q rest (a.put o.dst (.slice (some ⟨g, 0, none⟩) 1 1)) w') : wpList P ops Q (o :: rest) a w := by
 cases hq : P.info? e with
 | none => rw [hq] at hi; cases hi
 | some ie =>
  rw [hq] at hi
  simp only [Option.map_some, Option.some.injEq, Prod.mk.injEq] at hi
  obtain ⟨hz, hs⟩ := hi
  refine Go.wpList_buildSlice hgd t e 1 #[(0, x)] ho l.toArray ie z hu hq hz (by rw [hs]; omega) (by rw [hs]; omega) ?_ (h w.heap.size _ rfl (Blk.new w e l) ((Below.refl _ _).alloc (Nat.le_refl _) _) (by show (World.alloc _ _).heap.size = _; rw [World.size_alloc]))
  rw [hs]
  have e0 : (#[(0, x)].map fun ((i, x) : Nat × Operand) => (i, a.eval x)).toList = [(0, a.eval x)] := by simp
  rw [e0, hx]
  have hl : (Value.agg l.toArray).cells.size = n := by simpa [Value.cells] using hn
  have := Great.fill_whole (s := n) h0 [Value.agg l.toArray] ((Array.range (1 * n)).map (z.cells[· % z.cells.size]!)) (fun v hv => by simp only [List.mem_singleton] at hv; rw [hv]; exact hl) (by simp)
  simpa [Value.cells] using this
end
/-- A factor's literal. -/
theorem built47 (vs : List (Nat × Value)) : Tryz.prog.built 164 vs = Instr.fill (#[(0, 256), (256, 1), (257, 1), (258, 1), (259, 1)][·]?) (facL none_ (.slice none 0 0) false 0 0).toArray vs := by kernel_rfl
theorem fill_nil (pl : Nat → Option (Nat × Nat)) (C : Array Value) : Instr.fill pl C [] = some C := rfl
theorem fill_cell {pl : Nat → Option (Nat × Nat)} {C : List Value} {i off : Nat} {v : Value} {vs : List (Nat × Value)} (hp : pl i = some (off, 1)) (hv : v.cells = #[v]) (ho : off < C.length) : Instr.fill pl C.toArray ((i, v) :: vs) = Instr.fill pl (C.set off v).toArray vs := by
 rw [Instr.fill, hp]
 simp only [hv]
 rw [if_neg (by simp; omega)]
 simp
theorem fill_front {pl : Nat → Option (Nat × Nat)} {A B D : List Value} {i n : Nat} {vs : List (Nat × Value)} (hp : pl i = some (0, n)) (ha : A.length = n) (hb : B.length = n) : Instr.fill pl (B ++ D).toArray ((i, .agg A.toArray) :: vs) = Instr.fill pl (A ++ D).toArray vs := by
 rw [Instr.fill, hp]
 have hv : (Value.agg A.toArray).cells = A.toArray := rfl
 simp only [hv]
 rw [if_neg (by simp; omega)]
 congr 1
 have h := splice A 0 (B ++ D).toArray (by simp; omega)
 have e : ((A ++ D).toArray).toList = A ++ D := rfl
 apply Array.toList_inj.1
 rw [e]
 simp only [Nat.zero_add] at h ⊢
 rw [show (A.toArray.zipIdx) = (A.zipIdx 0).toArray by simp, List.foldl_toArray']
 ·rw [h]
  simp [hb, ha]
 ·simp
theorem built_zero : Tryz.prog.built 164 [] = some (facL none_ (.slice none 0 0) false 0 0).toArray := by rw [built47, fill_nil]
theorem built_lit (c : Int) : Tryz.prog.built 164 [(2, .bool true), (3, .int .u8 c)] = some (clsC none_ ++ [Value.slice none 0 0, Value.bool true, Value.int .u8 c, Value.int .u8 0]).toArray := by
 rw [built47, fill_cell (off := 257) rfl rfl (by rw [facL_len]; omega), fill_cell (off := 258) rfl rfl (by rw [List.length_set, facL_len]; omega), fill_nil]
 unfold facL
 rw [List.set_append, if_neg (by rw [clsC_len]; omega), clsC_len, List.set_append, if_neg (by rw [clsC_len]; omega), clsC_len]
 rfl
theorem built_cls (f : UInt8 → Bool) : Tryz.prog.built 164 [(0, .agg (clsC f).toArray)] = some (facL f (.slice none 0 0) false 0 0).toArray := by
 rw [built47]
 unfold facL
 rw [fill_front rfl (clsC_len f) (clsC_len none_), fill_nil]
theorem built_sub (v : Value) (hv : v.cells = #[v]) : Tryz.prog.built 164 [(1, v)] = some (facL none_ v false 0 0).toArray := by
 rw [built47, fill_cell (off := 256) rfl hv (by rw [facL_len]; omega), fill_nil]
 unfold facL
 rw [List.set_append, if_neg (by rw [clsC_len]; omega), clsC_len]
 rfl
end Go.Proofs.YtdeppcddknakjaaGreatDoor.Rx
