/- What a round of the range over the four results keeps, and what the iterator holds between two rounds. The iterator over the four products, the four quotients. What the range over the four results needs beside its iterator. -/
import Derived.RangeFuncNested
import Derived.RangeFuncBound
import Derived.RangeFuncCalls
import Derived.RangeFuncLeaves
import Derived.RangeFuncBox
import Derived.Maps.AppendAt
import Derived.Maps.OwnIn
import Derived.Shelf.Abstract
import Derived.Shelf.RegionOpen
import Derived.OwnWalkIn
import Derived.TacticsInMore
import Derived.LoopNIn
import Derived.LoopIn
import Derived.Test.YtbiegbnncnjnmaaMQe
set_option linter.unusedVariables false
set_option linter.unusedSimpArgs false
namespace Go.Proofs.Ytbiegbnncnjnmaa.Iv
open Go.RowKit Go.Shelf
open Go.Proofs.Ytbiegbnncnjnmaa.Pro

/-- The block in which the slice lies that the box rb holds. -/
def rowOf (rb : Nat) (W : World) : Nat := match W.cell? ⟨rb, 0, none⟩ with
  | some (.slice (some a) _ _) => a.block
  | _ => 0
theorem rowOf_same {rb : Nat} {A B : World} (h : B.cell? ⟨rb, 0, none⟩ = A.cell? ⟨rb, 0, none⟩) : rowOf rb B = rowOf rb A := by
  unfold rowOf
  rw [h]
/-- What a round keeps: every block of cells beyond n, but for the slice's. -/
structure Kept (n rb : Nat) (A B : World) : Prop where
  size : A.heap.size ≤ B.heap.size
  row : rowOf rb B = rowOf rb A ∨ A.heap.size ≤ rowOf rb B
  lt : rowOf rb A < A.heap.size → rowOf rb B < B.heap.size
  same : ∀ (b : Nat) (cs : Array Value) (t : TypeId) (fz : Nat × Nat), n ≤ b → A.heap[b]? = some (.cells cs t fz) → rowOf rb A ≠ b → B.heap[b]? = A.heap[b]?
theorem Kept.trans {n rb : Nat} {A B C : World} (h : Kept n rb A B) (k : Kept n rb B C) : Kept n rb A C := by
  refine ⟨Nat.le_trans h.size k.size, ?_, fun x => k.lt (h.lt x), fun b cs t fz hb hA hne => ?_⟩
  · rcases k.row with e | e
    · rcases h.row with e' | e'
      · exact .inl (e.trans e')
      · exact .inr (by omega)
    · exact .inr (Nat.le_trans h.size e)
  · have hlt : b < A.heap.size := (Array.getElem?_eq_some_iff.1 hA).1
    have e := h.same b cs t fz hb hA hne
    have hne2 : rowOf rb B ≠ b := by
      rcases h.row with e' | e'
      · rw [e']; exact hne
      · omega
    exact (k.same b cs t fz hb (e.trans hA) hne2).trans e
theorem Kept.put {n rb : Nat} (W : World) (l : Nat) (o o' : Obj) (hn : rb < l) (hl : W.heap[l]? = some o) (ho : o.isCells = false) : Kept n rb W (W.putObj l o') := by
  have hg := grownBy_putObj' W l o'
  have hc : (W.putObj l o').cell? ⟨rb, 0, none⟩ = W.cell? ⟨rb, 0, none⟩ := by
    have hlt : l < W.heap.size := (Array.getElem?_eq_some_iff.1 hl).1
    exact World.cell?_of_block (hg.block rb (by omega) (by intro e; cases e; omega))
  refine ⟨hg.size, .inl (rowOf_same hc), fun h => by rw [rowOf_same hc]; exact Nat.lt_of_lt_of_le h hg.size, fun b cs t fz _ hA _ => ?_⟩
  have hlt : b < W.heap.size := (Array.getElem?_eq_some_iff.1 hA).1
  refine hg.block b hlt ?_
  intro e
  cases e
  rw [hl] at hA
  cases hA
  cases ho
/-- Blocks that a round leaves alone. -/
def Safe (n rb : Nat) (L : List (Nat × Array Value × TypeId)) (V : World) : Prop := ∀ x ∈ L, V.heap[x.1]? = some (.cells x.2.1 x.2.2 (0, 0)) ∧ n ≤ x.1 ∧ rowOf rb V ≠ x.1
theorem Safe.kept {n rb : Nat} {L : List (Nat × Array Value × TypeId)} {A B : World} (h : Safe n rb L A) (k : Kept n rb A B) : Safe n rb L B := fun x hx => by
  obtain ⟨h1, h2, h3⟩ := h x hx
  have hlt : x.1 < A.heap.size := (Array.getElem?_eq_some_iff.1 h1).1
  refine ⟨(k.same x.1 _ _ _ h2 h1 h3).trans h1, h2, ?_⟩
  rcases k.row with e | e
  · rw [e]; exact h3
  · omega
/-- The iterator's state: what its caller holds; its own blocks. -/
structure Sta (n rb : Nat) (J : List Nat → World → Prop) (pre : List Nat) (L : List (Nat × Array Value × TypeId)) (V : World) : Prop where
  j : J pre V
  safe : Safe n rb L V
  lt : rowOf rb V < V.heap.size
  n1 : n ≤ V.heap.size
  rb1 : rb < V.heap.size
theorem Sta.alloc {n rb B : Nat} {J : List Nat → World → Prop} {pre : List Nat} {L : List (Nat × Array Value × TypeId)} {V : World} (hJ : AbidesFrom B J) (h : Sta n rb J pre L V) (cs : Array Value) (t : TypeId) :
    Sta n rb J pre ((V.heap.size, cs, t) :: L) (V.alloc (.cells cs t)) := by
  have hc : (V.alloc (.cells cs t)).cell? ⟨rb, 0, none⟩ = V.cell? ⟨rb, 0, none⟩ := World.cell?_of_block (heap_alloc_old _ _ _ h.rb1)
  have hr := rowOf_same hc
  refine ⟨hJ _ _ _ none h.j (World.grownBy_alloc V _ none) (fun r e => by cases e), fun x hx => ?_, ?_, ?_, ?_⟩
  · rw [hr]
    rcases List.mem_cons.1 hx with rfl | hx
    · exact ⟨heap_alloc_new _ _, h.n1, by have := h.lt; simp only; omega⟩
    · obtain ⟨h1, h2, h3⟩ := h.safe x hx
      exact ⟨(heap_alloc_old _ _ _ (Array.getElem?_eq_some_iff.1 h1).1).trans h1, h2, h3⟩
  · rw [hr, World.size_alloc]; have := h.lt; omega
  · rw [World.size_alloc]; have := h.n1; omega
  · rw [World.size_alloc]; have := h.rb1; omega
theorem Sta.step {n rb B : Nat} {J : List Nat → World → Prop} {pre : List Nat} {L : List (Nat × Array Value × TypeId)} {V V2 : World} (hJ : AbidesFrom B J) (h : Sta n rb J pre L V) (hb : Below V.heap.size V V2) : Sta n rb J pre L V2 := by
  have hc : V2.cell? ⟨rb, 0, none⟩ = V.cell? ⟨rb, 0, none⟩ := World.cell?_of_block (hb.block _ h.rb1)
  have hr := rowOf_same hc
  refine ⟨hJ _ _ _ none h.j ⟨hb.os, hb.tape, hb.output, hb.size, fun k hk _ => hb.block k hk⟩ (fun r e => by cases e), fun x hx => ?_, ?_, Nat.le_trans h.n1 hb.size, Nat.lt_of_lt_of_le h.rb1 hb.size⟩
  · rw [hr]
    obtain ⟨h1, h2, h3⟩ := h.safe x hx
    exact ⟨(hb.block _ (Array.getElem?_eq_some_iff.1 h1).1).trans h1, h2, h3⟩
  · rw [hr]; exact Nat.lt_of_lt_of_le h.lt hb.size
theorem Sta.kept {n rb : Nat} {J J' : List Nat → World → Prop} {pre pre' : List Nat} {L : List (Nat × Array Value × TypeId)} {V V2 : World} (h : Sta n rb J pre L V) (hj : J' pre' V2) (k : Kept n rb V V2) : Sta n rb J' pre' L V2 :=
  ⟨hj, h.safe.kept k, k.lt h.lt, Nat.le_trans h.n1 k.size, Nat.lt_of_lt_of_le h.rb1 k.size⟩
theorem Sta.sub {n rb : Nat} {J : List Nat → World → Prop} {pre : List Nat} {L M : List (Nat × Array Value × TypeId)} {V : World} (h : Sta n rb J pre L V) (hM : ∀ x ∈ M, x ∈ L) : Sta n rb J pre M V :=
  ⟨h.j, fun x hx => h.safe x (hM x hx), h.lt, h.n1, h.rb1⟩
theorem Sta.row {n rb : Nat} {J : List Nat → World → Prop} {pre : List Nat} {L : List (Nat × Array Value × TypeId)} {V : World} (h : Sta n rb J pre L V) {b : Nat} {cs : Array Value} {t : TypeId} (hx : (b, cs, t) ∈ L) : V.heap[b]? = some (.cells cs t (0, 0)) := (h.safe _ hx).1
theorem Sta.size {n rb : Nat} {J : List Nat → World → Prop} {pre : List Nat} {L : List (Nat × Array Value × TypeId)} {V : World} (h : Sta n rb J pre L V) {x : Nat × Array Value × TypeId} (hx : x ∈ L) : x.1 < V.heap.size := (Array.getElem?_eq_some_iff.1 (h.safe x hx).1).1
end Go.Proofs.Ytbiegbnncnjnmaa.Iv
namespace Go.Proofs.Ytbiegbnncnjnmaa.Iv
open Go.RowKit Go.Shelf
open Go.Proofs.Ytbiegbnncnjnmaa.Pro

attribute [local go_sem] Oper.semAt_some

/-- The four results. -/
def sel (k : Nat) (z0 z1 z2 z3 : Int) : Int := match k with
  | 0 => z0
  | 1 => z1
  | 2 => z2
  | _ => z3
abbrev enc4 (x0 y0 e0 x1 y1 e1 x2 y2 e2 x3 y3 e3 : Int) (k : Nat) : Array Value := #[.agg #[.int .i64 (sel k x0 x1 x2 x3), .int .i64 (sel k y0 y1 y2 y3)], .int .i64 (sel k e0 e1 e2 e3)]
/-- A part of them has come. -/
def Part (ys : List Nat) : Prop := ys = [0] ∨ ys = [0, 1] ∨ ys = [0, 1, 2] ∨ ys = [0, 1, 2, 3]

set_option maxRecDepth 100000 in
set_option maxHeartbeats 4000000 in
theorem ends1_mul (dp : Nat) (hn : 1 ≤ dp) (l n rb B bf bx bz : Nat) (a b c d p q r s x0 y0 e0 x1 y1 e1 x2 y2 e2 x3 y3 e3 : Int)
    (FC0 : Hid (∀ w : World, Calls Try.prog 70 #[.agg #[.int .i64 a, .int .i64 b], .agg #[.int .i64 p, .int .i64 q]] w fun e w' => e = .returned (.tuple #[.agg #[.int .i64 x0, .int .i64 y0], .int .i64 e0]) ∧ Below w.heap.size w w'))
    (FC1 : Hid (∀ w : World, Calls Try.prog 70 #[.agg #[.int .i64 a, .int .i64 b], .agg #[.int .i64 r, .int .i64 s]] w fun e w' => e = .returned (.tuple #[.agg #[.int .i64 x1, .int .i64 y1], .int .i64 e1]) ∧ Below w.heap.size w w'))
    (FC2 : Hid (∀ w : World, Calls Try.prog 70 #[.agg #[.int .i64 c, .int .i64 d], .agg #[.int .i64 p, .int .i64 q]] w fun e w' => e = .returned (.tuple #[.agg #[.int .i64 x2, .int .i64 y2], .int .i64 e2]) ∧ Below w.heap.size w w'))
    (FC3 : Hid (∀ w : World, Calls Try.prog 70 #[.agg #[.int .i64 c, .int .i64 d], .agg #[.int .i64 r, .int .i64 s]] w fun e w' => e = .returned (.tuple #[.agg #[.int .i64 x3, .int .i64 y3], .int .i64 e3]) ∧ Below w.heap.size w w'))
    (J Jx : List Nat → World → Prop) (hJ : AbidesFrom B J)
    (hY : ∀ pre x W, J pre W → pre.length < 4 → YieldAt Fence.wide (dp - 1) Try.prog l (enc4 x0 y0 e0 x1 y1 e1 x2 y2 e2 x3 y3 e3 x) W fun e W' =>
      (e = .returned (.bool true) ∧ J (pre ++ [x]) W' ∧ Kept n rb W W') ∨ (e = .returned (.bool false) ∧ Jx (pre ++ [x]) W'))
    (W : World) (h0 : Sta n rb J [] [(bf, #[.func (.func 70) #[] #[]], 85), (bx, #[.int .i64 a, .int .i64 b, .int .i64 c, .int .i64 d], 25), (bz, #[.int .i64 p, .int .i64 q, .int .i64 r, .int .i64 s], 25)] W) :
    CallsIn Fence.wide dp Try.prog 103 #[.func (.yield l) #[] #[], .pointer (some ⟨bx, 0, none⟩), .pointer (some ⟨bz, 0, none⟩), .pointer (some ⟨bf, 0, none⟩)] W fun e W' => (∃ v, e = .returned v) ∧
      ((∃ ys, ys = [0, 1, 2, 3] ∧ J ys W') ∨ (∃ pre, Part pre ∧ Jx pre W')) := by
  have S1 := Lib.hid (h0.alloc hJ #[.int .i64 a, .int .i64 b, .int .i64 c, .int .i64 d] 23)
  have HB := Lib.hid hJ
  have HY := Lib.hid hY
  clear hJ hY
  obtain ⟨c0, c1, c2, c3⟩ := cells4 (h0.row (b := bx) (cs := #[.int .i64 a, .int .i64 b, .int .i64 c, .int .i64 d]) (t := 25) (by simp))
  refine callsIn_of_wp Try.func103 rfl trivial ?_ rfl
  simp only [Try.ntmps103, List.size_toArray, List.length_cons, List.length_nil, Nat.reduceAdd, Nat.reduceSub, Array.replicate_succ, Array.replicate_zero, List.push_toArray, List.append_toArray, List.nil_append, List.cons_append]
  gi_wp2
  clear h0 c0 c1 c2 c3
  generalize W.alloc (.cells #[.int .i64 a, .int .i64 b, .int .i64 c, .int .i64 d] 23) = W1 at *
  generalize W.heap.size = g1 at *
  gi_loopw [15] (fun vi wr => (vi = .int .i64 0 ∧ Hid (Sta n rb J [] [(g1, #[.int .i64 a, .int .i64 b, .int .i64 c, .int .i64 d], 23), (bf, #[.func (.func 70) #[] #[]], 85), (bx, #[.int .i64 a, .int .i64 b, .int .i64 c, .int .i64 d], 25), (bz, #[.int .i64 p, .int .i64 q, .int .i64 r, .int .i64 s], 25)] wr)) ∨ (vi = .int .i64 1 ∧ Hid (Sta n rb J [0, 1] [(g1, #[.int .i64 a, .int .i64 b, .int .i64 c, .int .i64 d], 23), (bf, #[.func (.func 70) #[] #[]], 85), (bx, #[.int .i64 a, .int .i64 b, .int .i64 c, .int .i64 d], 25), (bz, #[.int .i64 p, .int .i64 q, .int .i64 r, .int .i64 s], 25)] wr)) ∨ (vi = .int .i64 2 ∧ Hid (Sta n rb J [0, 1, 2, 3] [(g1, #[.int .i64 a, .int .i64 b, .int .i64 c, .int .i64 d], 23), (bf, #[.func (.func 70) #[] #[]], 85), (bx, #[.int .i64 a, .int .i64 b, .int .i64 c, .int .i64 d], 25), (bz, #[.int .i64 p, .int .i64 q, .int .i64 r, .int .i64 s], 25)] wr))) (fun vi _ => (2 - intOf vi).toNat)
  case atStart => exact Or.inl ⟨rfl, S1⟩
  case round =>
    clear S1
    rcases hrel with ⟨rfl, H⟩ | ⟨rfl, H⟩ | ⟨rfl, H⟩
    · obtain ⟨c0, c1, c2, c3⟩ := cells4 (H.out.row (b := g1) (cs := #[.int .i64 a, .int .i64 b, .int .i64 c, .int .i64 d]) (t := 23) (by simp))
      obtain ⟨d0, d1, d2, d3⟩ := cells4 (H.out.row (b := bz) (cs := #[.int .i64 p, .int .i64 q, .int .i64 r, .int .i64 s]) (t := 25) (by simp))
      have hbz : bz < wr.heap.size := H.out.size (x := (bz, #[.int .i64 p, .int .i64 q, .int .i64 r, .int .i64 s], 25)) (by simp)
      have T1 := Lib.hid ((H.out.alloc HB.out #[.int .i64 a, .int .i64 b] 23).alloc HB.out #[.int .i64 p, .int .i64 q, .int .i64 r, .int .i64 s] 23)
      gi_wp2
      clear c0 c1 c2 c3 d0 d1 d2 d3 hbz H
      simp only [World.size_alloc] at T1
      generalize wr.heap.size = gv at *
      have T2 : Hid (Sta n rb J [] ((gv + 1, #[.int .i64 p, .int .i64 q, .int .i64 r, .int .i64 s], 23) :: (gv, #[.int .i64 a, .int .i64 b], 23) :: [(g1, #[.int .i64 a, .int .i64 b, .int .i64 c, .int .i64 d], 23), (bf, #[.func (.func 70) #[] #[]], 85), (bx, #[.int .i64 a, .int .i64 b, .int .i64 c, .int .i64 d], 25), (bz, #[.int .i64 p, .int .i64 q, .int .i64 r, .int .i64 s], 25)]) ((wr.alloc (.cells #[.int .i64 a, .int .i64 b] 23)).alloc (.cells #[.int .i64 p, .int .i64 q, .int .i64 r, .int .i64 s] 23))) := T1
      clear T1
      generalize (wr.alloc (.cells #[.int .i64 a, .int .i64 b] 23)).alloc (.cells #[.int .i64 p, .int .i64 q, .int .i64 r, .int .i64 s] 23) = W3 at *
      gi_loopw [25] (fun vi wr => (vi = .int .i64 0 ∧ Hid (Sta n rb J [] ((gv + 1, #[.int .i64 p, .int .i64 q, .int .i64 r, .int .i64 s], 23) :: (gv, #[.int .i64 a, .int .i64 b], 23) :: [(g1, #[.int .i64 a, .int .i64 b, .int .i64 c, .int .i64 d], 23), (bf, #[.func (.func 70) #[] #[]], 85), (bx, #[.int .i64 a, .int .i64 b, .int .i64 c, .int .i64 d], 25), (bz, #[.int .i64 p, .int .i64 q, .int .i64 r, .int .i64 s], 25)]) wr)) ∨ (vi = .int .i64 1 ∧ Hid (Sta n rb J [0] ((gv + 1, #[.int .i64 p, .int .i64 q, .int .i64 r, .int .i64 s], 23) :: (gv, #[.int .i64 a, .int .i64 b], 23) :: [(g1, #[.int .i64 a, .int .i64 b, .int .i64 c, .int .i64 d], 23), (bf, #[.func (.func 70) #[] #[]], 85), (bx, #[.int .i64 a, .int .i64 b, .int .i64 c, .int .i64 d], 25), (bz, #[.int .i64 p, .int .i64 q, .int .i64 r, .int .i64 s], 25)]) wr)) ∨ (vi = .int .i64 2 ∧ Hid (Sta n rb J [0, 1] ((gv + 1, #[.int .i64 p, .int .i64 q, .int .i64 r, .int .i64 s], 23) :: (gv, #[.int .i64 a, .int .i64 b], 23) :: [(g1, #[.int .i64 a, .int .i64 b, .int .i64 c, .int .i64 d], 23), (bf, #[.func (.func 70) #[] #[]], 85), (bx, #[.int .i64 a, .int .i64 b, .int .i64 c, .int .i64 d], 25), (bz, #[.int .i64 p, .int .i64 q, .int .i64 r, .int .i64 s], 25)]) wr))) (fun vi _ => (2 - intOf vi).toNat)
      case atStart => exact Or.inl ⟨rfl, T2⟩
      case round =>
        clear T2
        rcases hrel with ⟨rfl, H⟩ | ⟨rfl, H⟩ | ⟨rfl, H⟩
        · obtain ⟨c0, c1, c2, c3⟩ := cells4 (H.out.row (b := gv + 1) (cs := #[.int .i64 p, .int .i64 q, .int .i64 r, .int .i64 s]) (t := 23) (by simp))
          obtain ⟨v0, v1⟩ := cells2 (H.out.row (b := gv) (cs := #[.int .i64 a, .int .i64 b]) (t := 23) (by simp))
          have f0 := cells1 (H.out.row (b := bf) (cs := #[.func (.func 70) #[] #[]]) (t := 85) (by simp))
          have hgv : gv < wr.heap.size := H.out.size (x := (gv, #[.int .i64 a, .int .i64 b], 23)) (by simp)
          have hbf : bf < wr.heap.size := H.out.size (x := (bf, #[.func (.func 70) #[] #[]], 85)) (by simp)
          have T1 := Lib.hid (H.out.alloc HB.out #[.int .i64 p, .int .i64 q] 23)
          gi_wp2_with fail
          refine ⟨trivial, ?_⟩
          refine (callsIn_wide.2 (FC0.out _)).mono ?_
          rintro e w5 ⟨rfl, hb⟩
          have T2 := Lib.hid (T1.out.step HB.out hb)
          clear hb T1 H c0 c1 c2 c3 v0 v1 f0 hgv hbf
          obtain ⟨fn, tmps, assign, body, hy, hR⟩ := HY.out _ 0 w5 T2.out.j (by simp)
          dsimp only [enc4, sel] at hy
          gi_wp2
          refine hR.mono ?_
          rintro e W5 (⟨rfl, hj, hk⟩ | ⟨rfl, hx⟩)
          · have T3 : Hid (Sta n rb J [0] ((gv + 1, #[.int .i64 p, .int .i64 q, .int .i64 r, .int .i64 s], 23) :: (gv, #[.int .i64 a, .int .i64 b], 23) :: [(g1, #[.int .i64 a, .int .i64 b, .int .i64 c, .int .i64 d], 23), (bf, #[.func (.func 70) #[] #[]], 85), (bx, #[.int .i64 a, .int .i64 b, .int .i64 c, .int .i64 d], 25), (bz, #[.int .i64 p, .int .i64 q, .int .i64 r, .int .i64 s], 25)]) W5) := Lib.hid ((T2.out.kept hj hk).sub (fun x hx => List.mem_cons_of_mem _ hx))
            clear hj hk T2 hR hy
            gi_wp2
            go_roundw
            case rel => exact Or.inr (Or.inl ⟨(by first | rfl | trivial), T3⟩)
            case measure => simp [intOf]
          · gi_wp2
            refine bodyPost_ret (results_none rfl _ _ _) rfl ?_
            exact ⟨⟨_, rfl⟩, .inr ⟨_, Or.inl rfl, hx⟩⟩
        · obtain ⟨c0, c1, c2, c3⟩ := cells4 (H.out.row (b := gv + 1) (cs := #[.int .i64 p, .int .i64 q, .int .i64 r, .int .i64 s]) (t := 23) (by simp))
          obtain ⟨v0, v1⟩ := cells2 (H.out.row (b := gv) (cs := #[.int .i64 a, .int .i64 b]) (t := 23) (by simp))
          have f0 := cells1 (H.out.row (b := bf) (cs := #[.func (.func 70) #[] #[]]) (t := 85) (by simp))
          have hgv : gv < wr.heap.size := H.out.size (x := (gv, #[.int .i64 a, .int .i64 b], 23)) (by simp)
          have hbf : bf < wr.heap.size := H.out.size (x := (bf, #[.func (.func 70) #[] #[]], 85)) (by simp)
          have T1 := Lib.hid (H.out.alloc HB.out #[.int .i64 r, .int .i64 s] 23)
          gi_wp2_with fail
          refine ⟨trivial, ?_⟩
          refine (callsIn_wide.2 (FC1.out _)).mono ?_
          rintro e w5 ⟨rfl, hb⟩
          have T2 := Lib.hid (T1.out.step HB.out hb)
          clear hb T1 H c0 c1 c2 c3 v0 v1 f0 hgv hbf
          obtain ⟨fn, tmps, assign, body, hy, hR⟩ := HY.out _ 1 w5 T2.out.j (by simp)
          dsimp only [enc4, sel] at hy
          gi_wp2
          refine hR.mono ?_
          rintro e W5 (⟨rfl, hj, hk⟩ | ⟨rfl, hx⟩)
          · have T3 : Hid (Sta n rb J [0, 1] ((gv + 1, #[.int .i64 p, .int .i64 q, .int .i64 r, .int .i64 s], 23) :: (gv, #[.int .i64 a, .int .i64 b], 23) :: [(g1, #[.int .i64 a, .int .i64 b, .int .i64 c, .int .i64 d], 23), (bf, #[.func (.func 70) #[] #[]], 85), (bx, #[.int .i64 a, .int .i64 b, .int .i64 c, .int .i64 d], 25), (bz, #[.int .i64 p, .int .i64 q, .int .i64 r, .int .i64 s], 25)]) W5) := Lib.hid ((T2.out.kept hj hk).sub (fun x hx => List.mem_cons_of_mem _ hx))
            clear hj hk T2 hR hy
            gi_wp2
            go_roundw
            case rel => exact Or.inr (Or.inr ⟨(by first | rfl | trivial), T3⟩)
            case measure => simp [intOf]
          · gi_wp2
            refine bodyPost_ret (results_none rfl _ _ _) rfl ?_
            exact ⟨⟨_, rfl⟩, .inr ⟨_, Or.inr (Or.inl rfl), hx⟩⟩
        · gi_wp2
          go_roundw
          case rel => exact Or.inr (Or.inl ⟨(by first | rfl | trivial), H.out.sub (fun x hx => List.mem_cons_of_mem _ (List.mem_cons_of_mem _ hx))⟩)
          case measure => simp [intOf]
    · obtain ⟨c0, c1, c2, c3⟩ := cells4 (H.out.row (b := g1) (cs := #[.int .i64 a, .int .i64 b, .int .i64 c, .int .i64 d]) (t := 23) (by simp))
      obtain ⟨d0, d1, d2, d3⟩ := cells4 (H.out.row (b := bz) (cs := #[.int .i64 p, .int .i64 q, .int .i64 r, .int .i64 s]) (t := 25) (by simp))
      have hbz : bz < wr.heap.size := H.out.size (x := (bz, #[.int .i64 p, .int .i64 q, .int .i64 r, .int .i64 s], 25)) (by simp)
      have T1 := Lib.hid ((H.out.alloc HB.out #[.int .i64 c, .int .i64 d] 23).alloc HB.out #[.int .i64 p, .int .i64 q, .int .i64 r, .int .i64 s] 23)
      gi_wp2
      clear c0 c1 c2 c3 d0 d1 d2 d3 hbz H
      simp only [World.size_alloc] at T1
      generalize wr.heap.size = gv at *
      have T2 : Hid (Sta n rb J [0, 1] ((gv + 1, #[.int .i64 p, .int .i64 q, .int .i64 r, .int .i64 s], 23) :: (gv, #[.int .i64 c, .int .i64 d], 23) :: [(g1, #[.int .i64 a, .int .i64 b, .int .i64 c, .int .i64 d], 23), (bf, #[.func (.func 70) #[] #[]], 85), (bx, #[.int .i64 a, .int .i64 b, .int .i64 c, .int .i64 d], 25), (bz, #[.int .i64 p, .int .i64 q, .int .i64 r, .int .i64 s], 25)]) ((wr.alloc (.cells #[.int .i64 c, .int .i64 d] 23)).alloc (.cells #[.int .i64 p, .int .i64 q, .int .i64 r, .int .i64 s] 23))) := T1
      clear T1
      generalize (wr.alloc (.cells #[.int .i64 c, .int .i64 d] 23)).alloc (.cells #[.int .i64 p, .int .i64 q, .int .i64 r, .int .i64 s] 23) = W3 at *
      gi_loopw [25] (fun vi wr => (vi = .int .i64 0 ∧ Hid (Sta n rb J [0, 1] ((gv + 1, #[.int .i64 p, .int .i64 q, .int .i64 r, .int .i64 s], 23) :: (gv, #[.int .i64 c, .int .i64 d], 23) :: [(g1, #[.int .i64 a, .int .i64 b, .int .i64 c, .int .i64 d], 23), (bf, #[.func (.func 70) #[] #[]], 85), (bx, #[.int .i64 a, .int .i64 b, .int .i64 c, .int .i64 d], 25), (bz, #[.int .i64 p, .int .i64 q, .int .i64 r, .int .i64 s], 25)]) wr)) ∨ (vi = .int .i64 1 ∧ Hid (Sta n rb J [0, 1, 2] ((gv + 1, #[.int .i64 p, .int .i64 q, .int .i64 r, .int .i64 s], 23) :: (gv, #[.int .i64 c, .int .i64 d], 23) :: [(g1, #[.int .i64 a, .int .i64 b, .int .i64 c, .int .i64 d], 23), (bf, #[.func (.func 70) #[] #[]], 85), (bx, #[.int .i64 a, .int .i64 b, .int .i64 c, .int .i64 d], 25), (bz, #[.int .i64 p, .int .i64 q, .int .i64 r, .int .i64 s], 25)]) wr)) ∨ (vi = .int .i64 2 ∧ Hid (Sta n rb J [0, 1, 2, 3] ((gv + 1, #[.int .i64 p, .int .i64 q, .int .i64 r, .int .i64 s], 23) :: (gv, #[.int .i64 c, .int .i64 d], 23) :: [(g1, #[.int .i64 a, .int .i64 b, .int .i64 c, .int .i64 d], 23), (bf, #[.func (.func 70) #[] #[]], 85), (bx, #[.int .i64 a, .int .i64 b, .int .i64 c, .int .i64 d], 25), (bz, #[.int .i64 p, .int .i64 q, .int .i64 r, .int .i64 s], 25)]) wr))) (fun vi _ => (2 - intOf vi).toNat)
      case atStart => exact Or.inl ⟨rfl, T2⟩
      case round =>
        clear T2
        rcases hrel with ⟨rfl, H⟩ | ⟨rfl, H⟩ | ⟨rfl, H⟩
        · obtain ⟨c0, c1, c2, c3⟩ := cells4 (H.out.row (b := gv + 1) (cs := #[.int .i64 p, .int .i64 q, .int .i64 r, .int .i64 s]) (t := 23) (by simp))
          obtain ⟨v0, v1⟩ := cells2 (H.out.row (b := gv) (cs := #[.int .i64 c, .int .i64 d]) (t := 23) (by simp))
          have f0 := cells1 (H.out.row (b := bf) (cs := #[.func (.func 70) #[] #[]]) (t := 85) (by simp))
          have hgv : gv < wr.heap.size := H.out.size (x := (gv, #[.int .i64 c, .int .i64 d], 23)) (by simp)
          have hbf : bf < wr.heap.size := H.out.size (x := (bf, #[.func (.func 70) #[] #[]], 85)) (by simp)
          have T1 := Lib.hid (H.out.alloc HB.out #[.int .i64 p, .int .i64 q] 23)
          gi_wp2_with fail
          refine ⟨trivial, ?_⟩
          refine (callsIn_wide.2 (FC2.out _)).mono ?_
          rintro e w5 ⟨rfl, hb⟩
          have T2 := Lib.hid (T1.out.step HB.out hb)
          clear hb T1 H c0 c1 c2 c3 v0 v1 f0 hgv hbf
          obtain ⟨fn, tmps, assign, body, hy, hR⟩ := HY.out _ 2 w5 T2.out.j (by simp)
          dsimp only [enc4, sel] at hy
          gi_wp2
          refine hR.mono ?_
          rintro e W5 (⟨rfl, hj, hk⟩ | ⟨rfl, hx⟩)
          · have T3 : Hid (Sta n rb J [0, 1, 2] ((gv + 1, #[.int .i64 p, .int .i64 q, .int .i64 r, .int .i64 s], 23) :: (gv, #[.int .i64 c, .int .i64 d], 23) :: [(g1, #[.int .i64 a, .int .i64 b, .int .i64 c, .int .i64 d], 23), (bf, #[.func (.func 70) #[] #[]], 85), (bx, #[.int .i64 a, .int .i64 b, .int .i64 c, .int .i64 d], 25), (bz, #[.int .i64 p, .int .i64 q, .int .i64 r, .int .i64 s], 25)]) W5) := Lib.hid ((T2.out.kept hj hk).sub (fun x hx => List.mem_cons_of_mem _ hx))
            clear hj hk T2 hR hy
            gi_wp2
            go_roundw
            case rel => exact Or.inr (Or.inl ⟨(by first | rfl | trivial), T3⟩)
            case measure => simp [intOf]
          · gi_wp2
            refine bodyPost_ret (results_none rfl _ _ _) rfl ?_
            exact ⟨⟨_, rfl⟩, .inr ⟨_, Or.inr (Or.inr (Or.inl rfl)), hx⟩⟩
        · obtain ⟨c0, c1, c2, c3⟩ := cells4 (H.out.row (b := gv + 1) (cs := #[.int .i64 p, .int .i64 q, .int .i64 r, .int .i64 s]) (t := 23) (by simp))
          obtain ⟨v0, v1⟩ := cells2 (H.out.row (b := gv) (cs := #[.int .i64 c, .int .i64 d]) (t := 23) (by simp))
          have f0 := cells1 (H.out.row (b := bf) (cs := #[.func (.func 70) #[] #[]]) (t := 85) (by simp))
          have hgv : gv < wr.heap.size := H.out.size (x := (gv, #[.int .i64 c, .int .i64 d], 23)) (by simp)
          have hbf : bf < wr.heap.size := H.out.size (x := (bf, #[.func (.func 70) #[] #[]], 85)) (by simp)
          have T1 := Lib.hid (H.out.alloc HB.out #[.int .i64 r, .int .i64 s] 23)
          gi_wp2_with fail
          refine ⟨trivial, ?_⟩
          refine (callsIn_wide.2 (FC3.out _)).mono ?_
          rintro e w5 ⟨rfl, hb⟩
          have T2 := Lib.hid (T1.out.step HB.out hb)
          clear hb T1 H c0 c1 c2 c3 v0 v1 f0 hgv hbf
          obtain ⟨fn, tmps, assign, body, hy, hR⟩ := HY.out _ 3 w5 T2.out.j (by simp)
          dsimp only [enc4, sel] at hy
          gi_wp2
          refine hR.mono ?_
          rintro e W5 (⟨rfl, hj, hk⟩ | ⟨rfl, hx⟩)
          · have T3 : Hid (Sta n rb J [0, 1, 2, 3] ((gv + 1, #[.int .i64 p, .int .i64 q, .int .i64 r, .int .i64 s], 23) :: (gv, #[.int .i64 c, .int .i64 d], 23) :: [(g1, #[.int .i64 a, .int .i64 b, .int .i64 c, .int .i64 d], 23), (bf, #[.func (.func 70) #[] #[]], 85), (bx, #[.int .i64 a, .int .i64 b, .int .i64 c, .int .i64 d], 25), (bz, #[.int .i64 p, .int .i64 q, .int .i64 r, .int .i64 s], 25)]) W5) := Lib.hid ((T2.out.kept hj hk).sub (fun x hx => List.mem_cons_of_mem _ hx))
            clear hj hk T2 hR hy
            gi_wp2
            go_roundw
            case rel => exact Or.inr (Or.inr ⟨(by first | rfl | trivial), T3⟩)
            case measure => simp [intOf]
          · gi_wp2
            refine bodyPost_ret (results_none rfl _ _ _) rfl ?_
            exact ⟨⟨_, rfl⟩, .inr ⟨_, Or.inr (Or.inr (Or.inr rfl)), hx⟩⟩
        · gi_wp2
          go_roundw
          case rel => exact Or.inr (Or.inr ⟨(by first | rfl | trivial), H.out.sub (fun x hx => List.mem_cons_of_mem _ (List.mem_cons_of_mem _ hx))⟩)
          case measure => simp [intOf]
    · gi_wp2
      go_end0
      exact ⟨⟨_, rfl⟩, .inl ⟨_, rfl, H.out.j⟩⟩
set_option maxRecDepth 100000 in
set_option maxHeartbeats 4000000 in
theorem ends1_div (dp : Nat) (hn : 1 ≤ dp) (l n rb B bf bx bz : Nat) (a b c d p q r s x0 y0 e0 x1 y1 e1 x2 y2 e2 x3 y3 e3 : Int)
    (FC0 : Hid (∀ w : World, Calls Try.prog 71 #[.agg #[.int .i64 a, .int .i64 b], .agg #[.int .i64 p, .int .i64 q]] w fun e w' => e = .returned (.tuple #[.agg #[.int .i64 x0, .int .i64 y0], .int .i64 e0]) ∧ Below w.heap.size w w'))
    (FC1 : Hid (∀ w : World, Calls Try.prog 71 #[.agg #[.int .i64 a, .int .i64 b], .agg #[.int .i64 r, .int .i64 s]] w fun e w' => e = .returned (.tuple #[.agg #[.int .i64 x1, .int .i64 y1], .int .i64 e1]) ∧ Below w.heap.size w w'))
    (FC2 : Hid (∀ w : World, Calls Try.prog 71 #[.agg #[.int .i64 c, .int .i64 d], .agg #[.int .i64 p, .int .i64 q]] w fun e w' => e = .returned (.tuple #[.agg #[.int .i64 x2, .int .i64 y2], .int .i64 e2]) ∧ Below w.heap.size w w'))
    (FC3 : Hid (∀ w : World, Calls Try.prog 71 #[.agg #[.int .i64 c, .int .i64 d], .agg #[.int .i64 r, .int .i64 s]] w fun e w' => e = .returned (.tuple #[.agg #[.int .i64 x3, .int .i64 y3], .int .i64 e3]) ∧ Below w.heap.size w w'))
    (J Jx : List Nat → World → Prop) (hJ : AbidesFrom B J)
    (hY : ∀ pre x W, J pre W → pre.length < 4 → YieldAt Fence.wide (dp - 1) Try.prog l (enc4 x0 y0 e0 x1 y1 e1 x2 y2 e2 x3 y3 e3 x) W fun e W' =>
      (e = .returned (.bool true) ∧ J (pre ++ [x]) W' ∧ Kept n rb W W') ∨ (e = .returned (.bool false) ∧ Jx (pre ++ [x]) W'))
    (W : World) (h0 : Sta n rb J [] [(bf, #[.func (.func 71) #[] #[]], 85), (bx, #[.int .i64 a, .int .i64 b, .int .i64 c, .int .i64 d], 25), (bz, #[.int .i64 p, .int .i64 q, .int .i64 r, .int .i64 s], 25)] W) :
    CallsIn Fence.wide dp Try.prog 103 #[.func (.yield l) #[] #[], .pointer (some ⟨bx, 0, none⟩), .pointer (some ⟨bz, 0, none⟩), .pointer (some ⟨bf, 0, none⟩)] W fun e W' => (∃ v, e = .returned v) ∧
      ((∃ ys, ys = [0, 1, 2, 3] ∧ J ys W') ∨ (∃ pre, Part pre ∧ Jx pre W')) := by
  have S1 := Lib.hid (h0.alloc hJ #[.int .i64 a, .int .i64 b, .int .i64 c, .int .i64 d] 23)
  have HB := Lib.hid hJ
  have HY := Lib.hid hY
  clear hJ hY
  obtain ⟨c0, c1, c2, c3⟩ := cells4 (h0.row (b := bx) (cs := #[.int .i64 a, .int .i64 b, .int .i64 c, .int .i64 d]) (t := 25) (by simp))
  refine callsIn_of_wp Try.func103 rfl trivial ?_ rfl
  simp only [Try.ntmps103, List.size_toArray, List.length_cons, List.length_nil, Nat.reduceAdd, Nat.reduceSub, Array.replicate_succ, Array.replicate_zero, List.push_toArray, List.append_toArray, List.nil_append, List.cons_append]
  gi_wp2
  clear h0 c0 c1 c2 c3
  generalize W.alloc (.cells #[.int .i64 a, .int .i64 b, .int .i64 c, .int .i64 d] 23) = W1 at *
  generalize W.heap.size = g1 at *
  gi_loopw [15] (fun vi wr => (vi = .int .i64 0 ∧ Hid (Sta n rb J [] [(g1, #[.int .i64 a, .int .i64 b, .int .i64 c, .int .i64 d], 23), (bf, #[.func (.func 71) #[] #[]], 85), (bx, #[.int .i64 a, .int .i64 b, .int .i64 c, .int .i64 d], 25), (bz, #[.int .i64 p, .int .i64 q, .int .i64 r, .int .i64 s], 25)] wr)) ∨ (vi = .int .i64 1 ∧ Hid (Sta n rb J [0, 1] [(g1, #[.int .i64 a, .int .i64 b, .int .i64 c, .int .i64 d], 23), (bf, #[.func (.func 71) #[] #[]], 85), (bx, #[.int .i64 a, .int .i64 b, .int .i64 c, .int .i64 d], 25), (bz, #[.int .i64 p, .int .i64 q, .int .i64 r, .int .i64 s], 25)] wr)) ∨ (vi = .int .i64 2 ∧ Hid (Sta n rb J [0, 1, 2, 3] [(g1, #[.int .i64 a, .int .i64 b, .int .i64 c, .int .i64 d], 23), (bf, #[.func (.func 71) #[] #[]], 85), (bx, #[.int .i64 a, .int .i64 b, .int .i64 c, .int .i64 d], 25), (bz, #[.int .i64 p, .int .i64 q, .int .i64 r, .int .i64 s], 25)] wr))) (fun vi _ => (2 - intOf vi).toNat)
  case atStart => exact Or.inl ⟨rfl, S1⟩
  case round =>
    clear S1
    rcases hrel with ⟨rfl, H⟩ | ⟨rfl, H⟩ | ⟨rfl, H⟩
    · obtain ⟨c0, c1, c2, c3⟩ := cells4 (H.out.row (b := g1) (cs := #[.int .i64 a, .int .i64 b, .int .i64 c, .int .i64 d]) (t := 23) (by simp))
      obtain ⟨d0, d1, d2, d3⟩ := cells4 (H.out.row (b := bz) (cs := #[.int .i64 p, .int .i64 q, .int .i64 r, .int .i64 s]) (t := 25) (by simp))
      have hbz : bz < wr.heap.size := H.out.size (x := (bz, #[.int .i64 p, .int .i64 q, .int .i64 r, .int .i64 s], 25)) (by simp)
      have T1 := Lib.hid ((H.out.alloc HB.out #[.int .i64 a, .int .i64 b] 23).alloc HB.out #[.int .i64 p, .int .i64 q, .int .i64 r, .int .i64 s] 23)
      gi_wp2
      clear c0 c1 c2 c3 d0 d1 d2 d3 hbz H
      simp only [World.size_alloc] at T1
      generalize wr.heap.size = gv at *
      have T2 : Hid (Sta n rb J [] ((gv + 1, #[.int .i64 p, .int .i64 q, .int .i64 r, .int .i64 s], 23) :: (gv, #[.int .i64 a, .int .i64 b], 23) :: [(g1, #[.int .i64 a, .int .i64 b, .int .i64 c, .int .i64 d], 23), (bf, #[.func (.func 71) #[] #[]], 85), (bx, #[.int .i64 a, .int .i64 b, .int .i64 c, .int .i64 d], 25), (bz, #[.int .i64 p, .int .i64 q, .int .i64 r, .int .i64 s], 25)]) ((wr.alloc (.cells #[.int .i64 a, .int .i64 b] 23)).alloc (.cells #[.int .i64 p, .int .i64 q, .int .i64 r, .int .i64 s] 23))) := T1
      clear T1
      generalize (wr.alloc (.cells #[.int .i64 a, .int .i64 b] 23)).alloc (.cells #[.int .i64 p, .int .i64 q, .int .i64 r, .int .i64 s] 23) = W3 at *
      gi_loopw [25] (fun vi wr => (vi = .int .i64 0 ∧ Hid (Sta n rb J [] ((gv + 1, #[.int .i64 p, .int .i64 q, .int .i64 r, .int .i64 s], 23) :: (gv, #[.int .i64 a, .int .i64 b], 23) :: [(g1, #[.int .i64 a, .int .i64 b, .int .i64 c, .int .i64 d], 23), (bf, #[.func (.func 71) #[] #[]], 85), (bx, #[.int .i64 a, .int .i64 b, .int .i64 c, .int .i64 d], 25), (bz, #[.int .i64 p, .int .i64 q, .int .i64 r, .int .i64 s], 25)]) wr)) ∨ (vi = .int .i64 1 ∧ Hid (Sta n rb J [0] ((gv + 1, #[.int .i64 p, .int .i64 q, .int .i64 r, .int .i64 s], 23) :: (gv, #[.int .i64 a, .int .i64 b], 23) :: [(g1, #[.int .i64 a, .int .i64 b, .int .i64 c, .int .i64 d], 23), (bf, #[.func (.func 71) #[] #[]], 85), (bx, #[.int .i64 a, .int .i64 b, .int .i64 c, .int .i64 d], 25), (bz, #[.int .i64 p, .int .i64 q, .int .i64 r, .int .i64 s], 25)]) wr)) ∨ (vi = .int .i64 2 ∧ Hid (Sta n rb J [0, 1] ((gv + 1, #[.int .i64 p, .int .i64 q, .int .i64 r, .int .i64 s], 23) :: (gv, #[.int .i64 a, .int .i64 b], 23) :: [(g1, #[.int .i64 a, .int .i64 b, .int .i64 c, .int .i64 d], 23), (bf, #[.func (.func 71) #[] #[]], 85), (bx, #[.int .i64 a, .int .i64 b, .int .i64 c, .int .i64 d], 25), (bz, #[.int .i64 p, .int .i64 q, .int .i64 r, .int .i64 s], 25)]) wr))) (fun vi _ => (2 - intOf vi).toNat)
      case atStart => exact Or.inl ⟨rfl, T2⟩
      case round =>
        clear T2
        rcases hrel with ⟨rfl, H⟩ | ⟨rfl, H⟩ | ⟨rfl, H⟩
        · obtain ⟨c0, c1, c2, c3⟩ := cells4 (H.out.row (b := gv + 1) (cs := #[.int .i64 p, .int .i64 q, .int .i64 r, .int .i64 s]) (t := 23) (by simp))
          obtain ⟨v0, v1⟩ := cells2 (H.out.row (b := gv) (cs := #[.int .i64 a, .int .i64 b]) (t := 23) (by simp))
          have f0 := cells1 (H.out.row (b := bf) (cs := #[.func (.func 71) #[] #[]]) (t := 85) (by simp))
          have hgv : gv < wr.heap.size := H.out.size (x := (gv, #[.int .i64 a, .int .i64 b], 23)) (by simp)
          have hbf : bf < wr.heap.size := H.out.size (x := (bf, #[.func (.func 71) #[] #[]], 85)) (by simp)
          have T1 := Lib.hid (H.out.alloc HB.out #[.int .i64 p, .int .i64 q] 23)
          gi_wp2_with fail
          refine ⟨trivial, ?_⟩
          refine (callsIn_wide.2 (FC0.out _)).mono ?_
          rintro e w5 ⟨rfl, hb⟩
          have T2 := Lib.hid (T1.out.step HB.out hb)
          clear hb T1 H c0 c1 c2 c3 v0 v1 f0 hgv hbf
          obtain ⟨fn, tmps, assign, body, hy, hR⟩ := HY.out _ 0 w5 T2.out.j (by simp)
          dsimp only [enc4, sel] at hy
          gi_wp2
          refine hR.mono ?_
          rintro e W5 (⟨rfl, hj, hk⟩ | ⟨rfl, hx⟩)
          · have T3 : Hid (Sta n rb J [0] ((gv + 1, #[.int .i64 p, .int .i64 q, .int .i64 r, .int .i64 s], 23) :: (gv, #[.int .i64 a, .int .i64 b], 23) :: [(g1, #[.int .i64 a, .int .i64 b, .int .i64 c, .int .i64 d], 23), (bf, #[.func (.func 71) #[] #[]], 85), (bx, #[.int .i64 a, .int .i64 b, .int .i64 c, .int .i64 d], 25), (bz, #[.int .i64 p, .int .i64 q, .int .i64 r, .int .i64 s], 25)]) W5) := Lib.hid ((T2.out.kept hj hk).sub (fun x hx => List.mem_cons_of_mem _ hx))
            clear hj hk T2 hR hy
            gi_wp2
            go_roundw
            case rel => exact Or.inr (Or.inl ⟨(by first | rfl | trivial), T3⟩)
            case measure => simp [intOf]
          · gi_wp2
            refine bodyPost_ret (results_none rfl _ _ _) rfl ?_
            exact ⟨⟨_, rfl⟩, .inr ⟨_, Or.inl rfl, hx⟩⟩
        · obtain ⟨c0, c1, c2, c3⟩ := cells4 (H.out.row (b := gv + 1) (cs := #[.int .i64 p, .int .i64 q, .int .i64 r, .int .i64 s]) (t := 23) (by simp))
          obtain ⟨v0, v1⟩ := cells2 (H.out.row (b := gv) (cs := #[.int .i64 a, .int .i64 b]) (t := 23) (by simp))
          have f0 := cells1 (H.out.row (b := bf) (cs := #[.func (.func 71) #[] #[]]) (t := 85) (by simp))
          have hgv : gv < wr.heap.size := H.out.size (x := (gv, #[.int .i64 a, .int .i64 b], 23)) (by simp)
          have hbf : bf < wr.heap.size := H.out.size (x := (bf, #[.func (.func 71) #[] #[]], 85)) (by simp)
          have T1 := Lib.hid (H.out.alloc HB.out #[.int .i64 r, .int .i64 s] 23)
          gi_wp2_with fail
          refine ⟨trivial, ?_⟩
          refine (callsIn_wide.2 (FC1.out _)).mono ?_
          rintro e w5 ⟨rfl, hb⟩
          have T2 := Lib.hid (T1.out.step HB.out hb)
          clear hb T1 H c0 c1 c2 c3 v0 v1 f0 hgv hbf
          obtain ⟨fn, tmps, assign, body, hy, hR⟩ := HY.out _ 1 w5 T2.out.j (by simp)
          dsimp only [enc4, sel] at hy
          gi_wp2
          refine hR.mono ?_
          rintro e W5 (⟨rfl, hj, hk⟩ | ⟨rfl, hx⟩)
          · have T3 : Hid (Sta n rb J [0, 1] ((gv + 1, #[.int .i64 p, .int .i64 q, .int .i64 r, .int .i64 s], 23) :: (gv, #[.int .i64 a, .int .i64 b], 23) :: [(g1, #[.int .i64 a, .int .i64 b, .int .i64 c, .int .i64 d], 23), (bf, #[.func (.func 71) #[] #[]], 85), (bx, #[.int .i64 a, .int .i64 b, .int .i64 c, .int .i64 d], 25), (bz, #[.int .i64 p, .int .i64 q, .int .i64 r, .int .i64 s], 25)]) W5) := Lib.hid ((T2.out.kept hj hk).sub (fun x hx => List.mem_cons_of_mem _ hx))
            clear hj hk T2 hR hy
            gi_wp2
            go_roundw
            case rel => exact Or.inr (Or.inr ⟨(by first | rfl | trivial), T3⟩)
            case measure => simp [intOf]
          · gi_wp2
            refine bodyPost_ret (results_none rfl _ _ _) rfl ?_
            exact ⟨⟨_, rfl⟩, .inr ⟨_, Or.inr (Or.inl rfl), hx⟩⟩
        · gi_wp2
          go_roundw
          case rel => exact Or.inr (Or.inl ⟨(by first | rfl | trivial), H.out.sub (fun x hx => List.mem_cons_of_mem _ (List.mem_cons_of_mem _ hx))⟩)
          case measure => simp [intOf]
    · obtain ⟨c0, c1, c2, c3⟩ := cells4 (H.out.row (b := g1) (cs := #[.int .i64 a, .int .i64 b, .int .i64 c, .int .i64 d]) (t := 23) (by simp))
      obtain ⟨d0, d1, d2, d3⟩ := cells4 (H.out.row (b := bz) (cs := #[.int .i64 p, .int .i64 q, .int .i64 r, .int .i64 s]) (t := 25) (by simp))
      have hbz : bz < wr.heap.size := H.out.size (x := (bz, #[.int .i64 p, .int .i64 q, .int .i64 r, .int .i64 s], 25)) (by simp)
      have T1 := Lib.hid ((H.out.alloc HB.out #[.int .i64 c, .int .i64 d] 23).alloc HB.out #[.int .i64 p, .int .i64 q, .int .i64 r, .int .i64 s] 23)
      gi_wp2
      clear c0 c1 c2 c3 d0 d1 d2 d3 hbz H
      simp only [World.size_alloc] at T1
      generalize wr.heap.size = gv at *
      have T2 : Hid (Sta n rb J [0, 1] ((gv + 1, #[.int .i64 p, .int .i64 q, .int .i64 r, .int .i64 s], 23) :: (gv, #[.int .i64 c, .int .i64 d], 23) :: [(g1, #[.int .i64 a, .int .i64 b, .int .i64 c, .int .i64 d], 23), (bf, #[.func (.func 71) #[] #[]], 85), (bx, #[.int .i64 a, .int .i64 b, .int .i64 c, .int .i64 d], 25), (bz, #[.int .i64 p, .int .i64 q, .int .i64 r, .int .i64 s], 25)]) ((wr.alloc (.cells #[.int .i64 c, .int .i64 d] 23)).alloc (.cells #[.int .i64 p, .int .i64 q, .int .i64 r, .int .i64 s] 23))) := T1
      clear T1
      generalize (wr.alloc (.cells #[.int .i64 c, .int .i64 d] 23)).alloc (.cells #[.int .i64 p, .int .i64 q, .int .i64 r, .int .i64 s] 23) = W3 at *
      gi_loopw [25] (fun vi wr => (vi = .int .i64 0 ∧ Hid (Sta n rb J [0, 1] ((gv + 1, #[.int .i64 p, .int .i64 q, .int .i64 r, .int .i64 s], 23) :: (gv, #[.int .i64 c, .int .i64 d], 23) :: [(g1, #[.int .i64 a, .int .i64 b, .int .i64 c, .int .i64 d], 23), (bf, #[.func (.func 71) #[] #[]], 85), (bx, #[.int .i64 a, .int .i64 b, .int .i64 c, .int .i64 d], 25), (bz, #[.int .i64 p, .int .i64 q, .int .i64 r, .int .i64 s], 25)]) wr)) ∨ (vi = .int .i64 1 ∧ Hid (Sta n rb J [0, 1, 2] ((gv + 1, #[.int .i64 p, .int .i64 q, .int .i64 r, .int .i64 s], 23) :: (gv, #[.int .i64 c, .int .i64 d], 23) :: [(g1, #[.int .i64 a, .int .i64 b, .int .i64 c, .int .i64 d], 23), (bf, #[.func (.func 71) #[] #[]], 85), (bx, #[.int .i64 a, .int .i64 b, .int .i64 c, .int .i64 d], 25), (bz, #[.int .i64 p, .int .i64 q, .int .i64 r, .int .i64 s], 25)]) wr)) ∨ (vi = .int .i64 2 ∧ Hid (Sta n rb J [0, 1, 2, 3] ((gv + 1, #[.int .i64 p, .int .i64 q, .int .i64 r, .int .i64 s], 23) :: (gv, #[.int .i64 c, .int .i64 d], 23) :: [(g1, #[.int .i64 a, .int .i64 b, .int .i64 c, .int .i64 d], 23), (bf, #[.func (.func 71) #[] #[]], 85), (bx, #[.int .i64 a, .int .i64 b, .int .i64 c, .int .i64 d], 25), (bz, #[.int .i64 p, .int .i64 q, .int .i64 r, .int .i64 s], 25)]) wr))) (fun vi _ => (2 - intOf vi).toNat)
      case atStart => exact Or.inl ⟨rfl, T2⟩
      case round =>
        clear T2
        rcases hrel with ⟨rfl, H⟩ | ⟨rfl, H⟩ | ⟨rfl, H⟩
        · obtain ⟨c0, c1, c2, c3⟩ := cells4 (H.out.row (b := gv + 1) (cs := #[.int .i64 p, .int .i64 q, .int .i64 r, .int .i64 s]) (t := 23) (by simp))
          obtain ⟨v0, v1⟩ := cells2 (H.out.row (b := gv) (cs := #[.int .i64 c, .int .i64 d]) (t := 23) (by simp))
          have f0 := cells1 (H.out.row (b := bf) (cs := #[.func (.func 71) #[] #[]]) (t := 85) (by simp))
          have hgv : gv < wr.heap.size := H.out.size (x := (gv, #[.int .i64 c, .int .i64 d], 23)) (by simp)
          have hbf : bf < wr.heap.size := H.out.size (x := (bf, #[.func (.func 71) #[] #[]], 85)) (by simp)
          have T1 := Lib.hid (H.out.alloc HB.out #[.int .i64 p, .int .i64 q] 23)
          gi_wp2_with fail
          refine ⟨trivial, ?_⟩
          refine (callsIn_wide.2 (FC2.out _)).mono ?_
          rintro e w5 ⟨rfl, hb⟩
          have T2 := Lib.hid (T1.out.step HB.out hb)
          clear hb T1 H c0 c1 c2 c3 v0 v1 f0 hgv hbf
          obtain ⟨fn, tmps, assign, body, hy, hR⟩ := HY.out _ 2 w5 T2.out.j (by simp)
          dsimp only [enc4, sel] at hy
          gi_wp2
          refine hR.mono ?_
          rintro e W5 (⟨rfl, hj, hk⟩ | ⟨rfl, hx⟩)
          · have T3 : Hid (Sta n rb J [0, 1, 2] ((gv + 1, #[.int .i64 p, .int .i64 q, .int .i64 r, .int .i64 s], 23) :: (gv, #[.int .i64 c, .int .i64 d], 23) :: [(g1, #[.int .i64 a, .int .i64 b, .int .i64 c, .int .i64 d], 23), (bf, #[.func (.func 71) #[] #[]], 85), (bx, #[.int .i64 a, .int .i64 b, .int .i64 c, .int .i64 d], 25), (bz, #[.int .i64 p, .int .i64 q, .int .i64 r, .int .i64 s], 25)]) W5) := Lib.hid ((T2.out.kept hj hk).sub (fun x hx => List.mem_cons_of_mem _ hx))
            clear hj hk T2 hR hy
            gi_wp2
            go_roundw
            case rel => exact Or.inr (Or.inl ⟨(by first | rfl | trivial), T3⟩)
            case measure => simp [intOf]
          · gi_wp2
            refine bodyPost_ret (results_none rfl _ _ _) rfl ?_
            exact ⟨⟨_, rfl⟩, .inr ⟨_, Or.inr (Or.inr (Or.inl rfl)), hx⟩⟩
        · obtain ⟨c0, c1, c2, c3⟩ := cells4 (H.out.row (b := gv + 1) (cs := #[.int .i64 p, .int .i64 q, .int .i64 r, .int .i64 s]) (t := 23) (by simp))
          obtain ⟨v0, v1⟩ := cells2 (H.out.row (b := gv) (cs := #[.int .i64 c, .int .i64 d]) (t := 23) (by simp))
          have f0 := cells1 (H.out.row (b := bf) (cs := #[.func (.func 71) #[] #[]]) (t := 85) (by simp))
          have hgv : gv < wr.heap.size := H.out.size (x := (gv, #[.int .i64 c, .int .i64 d], 23)) (by simp)
          have hbf : bf < wr.heap.size := H.out.size (x := (bf, #[.func (.func 71) #[] #[]], 85)) (by simp)
          have T1 := Lib.hid (H.out.alloc HB.out #[.int .i64 r, .int .i64 s] 23)
          gi_wp2_with fail
          refine ⟨trivial, ?_⟩
          refine (callsIn_wide.2 (FC3.out _)).mono ?_
          rintro e w5 ⟨rfl, hb⟩
          have T2 := Lib.hid (T1.out.step HB.out hb)
          clear hb T1 H c0 c1 c2 c3 v0 v1 f0 hgv hbf
          obtain ⟨fn, tmps, assign, body, hy, hR⟩ := HY.out _ 3 w5 T2.out.j (by simp)
          dsimp only [enc4, sel] at hy
          gi_wp2
          refine hR.mono ?_
          rintro e W5 (⟨rfl, hj, hk⟩ | ⟨rfl, hx⟩)
          · have T3 : Hid (Sta n rb J [0, 1, 2, 3] ((gv + 1, #[.int .i64 p, .int .i64 q, .int .i64 r, .int .i64 s], 23) :: (gv, #[.int .i64 c, .int .i64 d], 23) :: [(g1, #[.int .i64 a, .int .i64 b, .int .i64 c, .int .i64 d], 23), (bf, #[.func (.func 71) #[] #[]], 85), (bx, #[.int .i64 a, .int .i64 b, .int .i64 c, .int .i64 d], 25), (bz, #[.int .i64 p, .int .i64 q, .int .i64 r, .int .i64 s], 25)]) W5) := Lib.hid ((T2.out.kept hj hk).sub (fun x hx => List.mem_cons_of_mem _ hx))
            clear hj hk T2 hR hy
            gi_wp2
            go_roundw
            case rel => exact Or.inr (Or.inr ⟨(by first | rfl | trivial), T3⟩)
            case measure => simp [intOf]
          · gi_wp2
            refine bodyPost_ret (results_none rfl _ _ _) rfl ?_
            exact ⟨⟨_, rfl⟩, .inr ⟨_, Or.inr (Or.inr (Or.inr rfl)), hx⟩⟩
        · gi_wp2
          go_roundw
          case rel => exact Or.inr (Or.inr ⟨(by first | rfl | trivial), H.out.sub (fun x hx => List.mem_cons_of_mem _ (List.mem_cons_of_mem _ hx))⟩)
          case measure => simp [intOf]
    · gi_wp2
      go_end0
      exact ⟨⟨_, rfl⟩, .inl ⟨_, rfl, H.out.j⟩⟩
end Go.Proofs.Ytbiegbnncnjnmaa.Iv
namespace Go.Proofs.Ytbiegbnncnjnmaa.Iv
open Go.RowKit Go.Shelf
open Go.Proofs.Ytbiegbnncnjnmaa.Pro

attribute [local go_sem] Oper.semAt_some

theorem rowOf_box {rb : Nat} {W : World} {t : TypeId} {v : Value} (h : Boxed W rb t v) : rowOf rb W = v.ownBlock.getD 0 := by
  unfold rowOf
  rw [h.cell]
  cases v with
  | slice a n c => cases a <;> rfl
  | _ => rfl
theorem Kept.alloc {n rb : Nat} (W : World) (o : Obj) (h : rb < W.heap.size) : Kept n rb W (W.alloc o) := by
  have hc : (W.alloc o).cell? ⟨rb, 0, none⟩ = W.cell? ⟨rb, 0, none⟩ := World.cell?_of_block (heap_alloc_old _ _ _ h)
  refine ⟨by rw [World.size_alloc]; omega, .inl (rowOf_same hc), fun x => by rw [rowOf_same hc, World.size_alloc]; omega, fun b cs t fz _ hA _ => heap_alloc_old _ _ _ (Array.getElem?_eq_some_iff.1 hA).1⟩
theorem Kept.appended {n rb B : Nat} {W w1 : World} {t e : TypeId} {size m : Nat} {v v' : Value} {ys : List Value} {tmp : Obj} (hn : rb < n) (hv : Boxed W rb t v) (hv1 : Boxed w1 rb t v)
    (hown' : w1.ownsRow B e size v' m ys) (hgrow : (W.alloc tmp).grownBy w1 v.ownBlock) (hat : v'.ownBlock = v.ownBlock ∨ v'.ownBlock = some (W.alloc tmp).heap.size) (hlt0 : rowOf rb W < W.heap.size) :
    Kept n rb W (w1.setCell ⟨rb, 0, none⟩ v') := by
  have h1 := rowOf_box hv
  have h2 := rowOf_box (hv1.set v')
  have hz := hgrow.size
  rw [World.size_alloc] at hz hat
  refine ⟨by rw [World.size_setCell]; omega, ?_, fun _ => ?_, fun b cs t fz hb hA hne => ?_⟩
  · rw [h1, h2]
    rcases hat with e | e
    · exact .inl (by rw [e])
    · exact .inr (by rw [e]; simp)
  · rw [h2, World.size_setCell]
    rcases hown'.2 with ⟨rfl, _⟩ | ⟨g, cap, cur, rfl, _, hg, _⟩
    · exact Nat.lt_of_le_of_lt (Nat.zero_le _) (show rowOf rb W < w1.heap.size by omega)
    · exact (Array.getElem?_eq_some_iff.1 hg).1
  · have hbl : b < W.heap.size := (Array.getElem?_eq_some_iff.1 hA).1
    have e1 : w1.heap[b]? = (W.alloc tmp).heap[b]? := hgrow.block b (by rw [World.size_alloc]; omega) (fun e => by
      rw [h1, ← e] at hne
      exact hne rfl)
    have e2 : (w1.setCell ⟨rb, 0, none⟩ v').heap[b]? = w1.heap[b]? := (grownBy_setCell' w1 rb v').block b (by omega) (fun e => by cases e; omega)
    exact e2.trans (e1.trans (heap_alloc_old _ _ _ hbl))
theorem row_own {β : Type} (b : Nat) (t : TypeId) (f : β → Array Value) : Own (fun s W => W.heap[b]? = some (.cells (f s) t (0, 0))) := fun s X Y row hs hg hrow =>
  (hg.block b (Array.getElem?_eq_some_iff.1 hs).1 (fun e' => by obtain ⟨o, ho, hc⟩ := hrow b e'.symm; rw [hs] at ho; cases ho; cases hc)).trans hs
theorem row_not {W : World} {b : Nat} {cs : Array Value} {t e : TypeId} (h : W.heap[b]? = some (.cells cs t (0, 0))) (hte : t ≠ e) {base size k : Nat} {v : Value} {xs : List Value} (hr : W.ownsRow base e size v k xs) : some b ≠ v.ownBlock := by
  intro e'
  rcases hr.2 with ⟨rfl, _⟩ | ⟨g, cap, cur, rfl, _, hg, _⟩
  · simp [Value.ownBlock] at e'
  · have : b = g := by simpa [Value.ownBlock] using e'
    subst this
    rw [h] at hg
    cases hg
    exact hte rfl
theorem cell_two_new (w : World) (x y : Value) (t : TypeId) : ∀ j u, [x, y][j]? = some u → (w.alloc (.cells #[x, y] t)).cell? ((⟨w.heap.size, 0, none⟩ : Addr).add j) = some u := by
  intro j u hj
  match j, hj with
  | 0, hj =>
    simp at hj
    subst hj
    exact (cells2 (heap_alloc_new _ _)).1
  | 1, hj =>
    simp at hj
    subst hj
    exact (cells2 (heap_alloc_new _ _)).2
def flat (X Y : Nat → Int) (pre : List Nat) : List Value := pre.flatMap fun k => [.int .i64 (X k), .int .i64 (Y k)]
theorem flat_snoc (X Y : Nat → Int) (pre : List Nat) (x : Nat) : flat X Y (pre ++ [x]) = flat X Y pre ++ [.int .i64 (X x), .int .i64 (Y x)] := by simp [flat]
theorem infoR : (Try.prog.info? 23).map (fun i => (i.zero, i.size, i.bytes)) = some (some (.agg #[.int .i64 0, .int .i64 0]), 2, 16) := by kernel_rfl
theorem ofEnds_mul (dp : Nat) (a b c d p q r s : Int) (w : World) :
    CallsIn Fence.wide dp Try.prog 89 #[.func (.func 70) #[] #[], .agg #[.int .i64 a, .int .i64 b, .int .i64 c, .int .i64 d], .agg #[.int .i64 p, .int .i64 q, .int .i64 r, .int .i64 s]] w fun e w' => e = .returned (.func (.func 103) #[] #[.pointer (some ⟨w.heap.size + 1, 0, none⟩), .pointer (some ⟨w.heap.size + 1 + 1, 0, none⟩), .pointer (some ⟨w.heap.size, 0, none⟩)]) ∧ w' = ((w.alloc (.cells #[.func (.func 70) #[] #[]] 85)).alloc (.cells #[.int .i64 a, .int .i64 b, .int .i64 c, .int .i64 d] 25)).alloc (.cells #[.int .i64 p, .int .i64 q, .int .i64 r, .int .i64 s] 25) := by
  refine callsIn_of_wp Try.func89 rfl trivial ?_ rfl
  simp only [Try.ntmps89, List.size_toArray, List.length_cons, List.length_nil, Nat.reduceAdd, Nat.reduceSub, Array.replicate_succ, Array.replicate_zero, List.push_toArray, List.append_toArray, List.nil_append, List.cons_append]
  gi_wp2
  go_ret
  exact ⟨rfl, rfl⟩
theorem stops_mul (dp : Nat) (hn : 1 ≤ dp) (n rb bf bx bz : Nat) (a b c d p q r s x0 y0 e0 x1 y1 e1 x2 y2 e2 x3 y3 e3 : Int)
    (FC0 : Hid (∀ w : World, Calls Try.prog 70 #[.agg #[.int .i64 a, .int .i64 b], .agg #[.int .i64 p, .int .i64 q]] w fun e w' => e = .returned (.tuple #[.agg #[.int .i64 x0, .int .i64 y0], .int .i64 e0]) ∧ Below w.heap.size w w'))
    (FC1 : Hid (∀ w : World, Calls Try.prog 70 #[.agg #[.int .i64 a, .int .i64 b], .agg #[.int .i64 r, .int .i64 s]] w fun e w' => e = .returned (.tuple #[.agg #[.int .i64 x1, .int .i64 y1], .int .i64 e1]) ∧ Below w.heap.size w w'))
    (FC2 : Hid (∀ w : World, Calls Try.prog 70 #[.agg #[.int .i64 c, .int .i64 d], .agg #[.int .i64 p, .int .i64 q]] w fun e w' => e = .returned (.tuple #[.agg #[.int .i64 x2, .int .i64 y2], .int .i64 e2]) ∧ Below w.heap.size w w'))
    (FC3 : Hid (∀ w : World, Calls Try.prog 70 #[.agg #[.int .i64 c, .int .i64 d], .agg #[.int .i64 r, .int .i64 s]] w fun e w' => e = .returned (.tuple #[.agg #[.int .i64 x3, .int .i64 y3], .int .i64 e3]) ∧ Below w.heap.size w w'))
    (w : World) (h0 : Sta n rb (fun _ _ => True) [] [(bf, #[.func (.func 70) #[] #[]], 85), (bx, #[.int .i64 a, .int .i64 b, .int .i64 c, .int .i64 d], 25), (bz, #[.int .i64 p, .int .i64 q, .int .i64 r, .int .i64 s], 25)] w) :
    SeqStopsK Fence.wide dp Try.prog 103 #[.pointer (some ⟨bx, 0, none⟩), .pointer (some ⟨bz, 0, none⟩), .pointer (some ⟨bf, 0, none⟩)] (enc4 x0 y0 e0 x1 y1 e1 x2 y2 e2 x3 y3 e3) (Kept n rb) (fun ys => ys = [0, 1, 2, 3]) Part 4 w := by
  intro l J Jx W hW hJ hJx hY hj
  have h1 := Sta.step (B := 0) (fun _ _ _ _ h _ _ => h) h0 hW
  exact ends1_mul dp hn l n rb W.heap.size bf bx bz a b c d p q r s x0 y0 e0 x1 y1 e1 x2 y2 e2 x3 y3 e3 FC0 FC1 FC2 FC3 J Jx hJ hY W ⟨hj, h1.safe, h1.lt, h1.n1, h1.rb1⟩
theorem ofEnds_div (dp : Nat) (a b c d p q r s : Int) (w : World) :
    CallsIn Fence.wide dp Try.prog 89 #[.func (.func 71) #[] #[], .agg #[.int .i64 a, .int .i64 b, .int .i64 c, .int .i64 d], .agg #[.int .i64 p, .int .i64 q, .int .i64 r, .int .i64 s]] w fun e w' => e = .returned (.func (.func 103) #[] #[.pointer (some ⟨w.heap.size + 1, 0, none⟩), .pointer (some ⟨w.heap.size + 1 + 1, 0, none⟩), .pointer (some ⟨w.heap.size, 0, none⟩)]) ∧ w' = ((w.alloc (.cells #[.func (.func 71) #[] #[]] 85)).alloc (.cells #[.int .i64 a, .int .i64 b, .int .i64 c, .int .i64 d] 25)).alloc (.cells #[.int .i64 p, .int .i64 q, .int .i64 r, .int .i64 s] 25) := by
  refine callsIn_of_wp Try.func89 rfl trivial ?_ rfl
  simp only [Try.ntmps89, List.size_toArray, List.length_cons, List.length_nil, Nat.reduceAdd, Nat.reduceSub, Array.replicate_succ, Array.replicate_zero, List.push_toArray, List.append_toArray, List.nil_append, List.cons_append]
  gi_wp2
  go_ret
  exact ⟨rfl, rfl⟩
theorem stops_div (dp : Nat) (hn : 1 ≤ dp) (n rb bf bx bz : Nat) (a b c d p q r s x0 y0 e0 x1 y1 e1 x2 y2 e2 x3 y3 e3 : Int)
    (FC0 : Hid (∀ w : World, Calls Try.prog 71 #[.agg #[.int .i64 a, .int .i64 b], .agg #[.int .i64 p, .int .i64 q]] w fun e w' => e = .returned (.tuple #[.agg #[.int .i64 x0, .int .i64 y0], .int .i64 e0]) ∧ Below w.heap.size w w'))
    (FC1 : Hid (∀ w : World, Calls Try.prog 71 #[.agg #[.int .i64 a, .int .i64 b], .agg #[.int .i64 r, .int .i64 s]] w fun e w' => e = .returned (.tuple #[.agg #[.int .i64 x1, .int .i64 y1], .int .i64 e1]) ∧ Below w.heap.size w w'))
    (FC2 : Hid (∀ w : World, Calls Try.prog 71 #[.agg #[.int .i64 c, .int .i64 d], .agg #[.int .i64 p, .int .i64 q]] w fun e w' => e = .returned (.tuple #[.agg #[.int .i64 x2, .int .i64 y2], .int .i64 e2]) ∧ Below w.heap.size w w'))
    (FC3 : Hid (∀ w : World, Calls Try.prog 71 #[.agg #[.int .i64 c, .int .i64 d], .agg #[.int .i64 r, .int .i64 s]] w fun e w' => e = .returned (.tuple #[.agg #[.int .i64 x3, .int .i64 y3], .int .i64 e3]) ∧ Below w.heap.size w w'))
    (w : World) (h0 : Sta n rb (fun _ _ => True) [] [(bf, #[.func (.func 71) #[] #[]], 85), (bx, #[.int .i64 a, .int .i64 b, .int .i64 c, .int .i64 d], 25), (bz, #[.int .i64 p, .int .i64 q, .int .i64 r, .int .i64 s], 25)] w) :
    SeqStopsK Fence.wide dp Try.prog 103 #[.pointer (some ⟨bx, 0, none⟩), .pointer (some ⟨bz, 0, none⟩), .pointer (some ⟨bf, 0, none⟩)] (enc4 x0 y0 e0 x1 y1 e1 x2 y2 e2 x3 y3 e3) (Kept n rb) (fun ys => ys = [0, 1, 2, 3]) Part 4 w := by
  intro l J Jx W hW hJ hJx hY hj
  have h1 := Sta.step (B := 0) (fun _ _ _ _ h _ _ => h) h0 hW
  exact ends1_div dp hn l n rb W.heap.size bf bx bz a b c d p q r s x0 y0 e0 x1 y1 e1 x2 y2 e2 x3 y3 e3 FC0 FC1 FC2 FC3 J Jx hJ hY W ⟨hj, h1.safe, h1.lt, h1.n1, h1.rb1⟩
end Go.Proofs.Ytbiegbnncnjnmaa.Iv
