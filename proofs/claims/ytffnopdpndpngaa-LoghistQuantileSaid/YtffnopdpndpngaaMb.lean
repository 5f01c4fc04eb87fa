/- Layer 12: the iterator over a histogram's buckets. -/
import Derived.RangeFuncNested
import Derived.RangeFuncBound
import Derived.RangeFuncCalls
import Derived.RangeFuncLeaves
import Derived.RangeFuncBox
import Derived.Maps.AppendAt
import Derived.Maps.OwnIn
import Derived.Shelf.Abstract
import Derived.Shelf.RegionOpen
import Derived.OwnWalkIn
import Derived.TacticsInMore
import Derived.LoopNIn
import Derived.LoopIn
import Derived.Sort.CutIn
import Derived.Test.YtffnopdpndpngaaMa
import Derived.Test.YtffnopdpndpngaaMLh
set_option linter.unusedVariables false
set_option linter.unusedSimpArgs false
namespace Go.Proofs.Ytffnopdpndpngaa.Lh
open Go.RowKit Go.Shelf
attribute [local go_sem] Oper.semAt_some
/-- What the iterator yields: a bucket's number and bounds, and the number of values up to it. -/
abbrev It := Int × Int × Int × Int
def itm (p mn mx a : Int) (b : B) : It := (b.2, max (loI p b.1) mn, min (hiI p b.1) mx, a + b.2)
def its (p mn mx : Int) : Int → List B → List It
  | _, [] => []
  | a, b :: r => itm p mn mx a b :: its p mn mx (a + b.2) r
theorem its_length (p mn mx : Int) : ∀ (a : Int) (l : List B), (its p mn mx a l).length = l.length
  | _, [] => rfl
  | a, b :: r => by simp only [its, List.length_cons, its_length p mn mx _ r]
theorem tot_cons (b : B) (r : List B) : tot (b :: r) = b.2 + tot r := by
  unfold tot
  simp only [W, Int.mul_one]
theorem tot_nil : tot [] = 0 := rfl
theorem its_take (p mn mx : Int) : ∀ (a : Int) (l : List B) (k : Nat) (h : k < l.length), (its p mn mx a l).take (k + 1) = (its p mn mx a l).take k ++ [itm p mn mx (a + tot (l.take k)) l[k]]
  | _, [], k, h => by simp at h
  | a, b :: r, 0, h => by simp [its, tot_nil]
  | a, b :: r, k + 1, h => by
    have ih := its_take p mn mx (a + b.2) r k (by simpa using h)
    simp only [its, List.take_succ_cons, ih, List.cons_append, tot_cons, List.getElem_cons_succ]
    rw [Int.add_assoc]
theorem its_at {p mn mx a : Int} {l : List B} {k : Nat} (h : k < l.length) : itm p mn mx (a + tot (l.take k)) l[k] ∈ its p mn mx a l := by
  have h1 := its_take p mn mx a l k h
  refine List.mem_of_mem_take (i := k + 1) ?_
  rw [h1]
  simp
theorem tot_take_succ {l : List B} {k : Nat} (h : k < l.length) : tot (l.take (k + 1)) = tot (l.take k) + l[k].2 := by
  unfold tot
  rw [W_take h, Int.mul_one]
abbrev QE (R : It → Prop) := { q : It // R q }
abbrev encQ {R : It → Prop} (x : QE R) : Array Value := #[.agg #[.int .i64 x.1.1, .int .i64 x.1.2.1, .int .i64 x.1.2.2.1], .int .i64 x.1.2.2.2]
def valQ {R : It → Prop} (l : List (QE R)) : List It := l.map (·.1)
theorem valQ_snoc {R : It → Prop} (l : List (QE R)) (x : QE R) : valQ (l ++ [x]) = valQ l ++ [x.1] := by unfold valQ; rw [List.map_append]; rfl
theorem valQ_length {R : It → Prop} (l : List (QE R)) : (valQ l).length = l.length := List.length_map ..
/-- Two blocks lie as they lay. -/
def KK (b1 b2 : Nat) (W W' : World) : Prop := W'.heap[b1]? = W.heap[b1]? ∧ W'.heap[b2]? = W.heap[b2]? ∧ W.heap.size ≤ W'.heap.size
theorem KK.refl (b1 b2 : Nat) (W : World) : KK b1 b2 W W := ⟨rfl, rfl, Nat.le_refl _⟩
theorem KK.trans {b1 b2 : Nat} {A B C : World} (h : KK b1 b2 A B) (k : KK b1 b2 B C) : KK b1 b2 A C := ⟨k.1.trans h.1, k.2.1.trans h.2.1, Nat.le_trans h.2.2 k.2.2⟩
theorem KK.cell1 {b1 b2 : Nat} {A B : World} (h : KK b1 b2 A B) (o : Nat) : B.cell? ⟨b1, o, none⟩ = A.cell? ⟨b1, o, none⟩ := World.cell?_of_block h.1
theorem KK.cell2 {b1 b2 : Nat} {A B : World} (h : KK b1 b2 A B) (o : Nat) : B.cell? ⟨b2, o, none⟩ = A.cell? ⟨b2, o, none⟩ := World.cell?_of_block h.2.1
theorem KK.put {b1 b2 : Nat} {W : World} {l : Nat} {o : Obj} (h1 : b1 ≠ l) (h2 : b2 ≠ l) : KK b1 b2 W (W.putObj l o) := ⟨World.putObj_heap_other h1, World.putObj_heap_other h2, by simp [World.putObj]⟩
theorem KK.below {b1 b2 : Nat} {W W' : World} (h1 : b1 < W.heap.size) (h2 : b2 < W.heap.size) (hb : Below W.heap.size W W') : KK b1 b2 W W' := ⟨hb.block b1 h1, hb.block b2 h2, hb.size⟩
theorem KK.set {b1 b2 : Nat} {W : World} {b o : Nat} {v : Value} (h1 : b1 ≠ b) (h2 : b2 ≠ b) : KK b1 b2 W (W.setCell ⟨b, o, none⟩ v) := ⟨by simp [World.setCell, Array.getElem?_modify, Ne.symm h1], by simp [World.setCell, Array.getElem?_modify, Ne.symm h2], by simp⟩
theorem KK.al {b1 b2 : Nat} {W : World} (o : Obj) (h1 : b1 < W.heap.size) (h2 : b2 < W.heap.size) : KK b1 b2 W (W.alloc o) := KK.below h1 h2 ((Below.refl _ W).alloc (Nat.le_refl _) _)
/-- The histogram, by its box and the block of its buckets. -/
structure LiesH (b1 b2 o c : Nat) (p cc ss mn mx : Int) (a : Option Addr) (l : List B) (V : World) : Prop where
  box : HC V b2 p cc ss mn mx a l.length c
  at_ : 0 < l.length → a = some ⟨b1, o, none⟩
  cells : ∀ j (h : j < l.length), V.cell? ⟨b1, o + j * 2, none⟩ = some (.int .i64 l[j].1) ∧ V.cell? ⟨b1, o + j * 2 + 1, none⟩ = some (.int .i64 l[j].2)
theorem LiesH.kept {b1 b2 o c : Nat} {p cc ss mn mx : Int} {a : Option Addr} {l : List B} {V V' : World} (h : LiesH b1 b2 o c p cc ss mn mx a l V) (k : KK b1 b2 V V') : LiesH b1 b2 o c p cc ss mn mx a l V' := by
  obtain ⟨⟨h0, h1, h2, h3, h4, h5⟩, g, hc⟩ := h
  exact ⟨⟨(k.cell2 0).trans h0, (k.cell2 1).trans h1, (k.cell2 2).trans h2, (k.cell2 3).trans h3, (k.cell2 4).trans h4, (k.cell2 5).trans h5⟩, g, fun j hj => ⟨(k.cell1 _).trans (hc j hj).1, (k.cell1 _).trans (hc j hj).2⟩⟩
theorem abides_below {α : Type} {J : List α → World → Prop} {B : Nat} (hJ : AbidesFrom B J) {s : List α} {W W' : World} (h : J s W) (hb : Below W.heap.size W W') : J s W' :=
  hJ _ _ _ none h ⟨hb.os, hb.tape, hb.output, hb.size, fun k hk _ => hb.block k hk⟩ (fun r e => by cases e)
theorem pBounds_I (p i : Int) (hp : 0 ≤ p ∧ p ≤ 8) (hi : 0 ≤ i ∧ i ≤ topI p) (w : World) :
    Calls Try.prog 14 #[.int .i64 p, .int .i64 i] w fun e w' => e = .returned (.tuple #[.int .i64 (loI p i), .int .i64 (hiI p i), .int .i64 0]) ∧ Below w.heap.size w w' := by
  have C := pBounds_any p i w
  unfold bndOut at C
  rw [if_neg (by omega)] at C
  exact C
set_option maxRecDepth 100000 in
set_option maxHeartbeats 4000000 in
theorem asc1_in (R : It → Prop) (n : Nat) (hn : 1 ≤ n) (lc b1 b2 o c : Nat) (p cc ss mn mx : Int) (a : Option Addr) (l : List B) (hl : l.length ≤ 500) (hp : 0 ≤ p ∧ p ≤ 8) (hr : ∀ x ∈ l, 0 ≤ x.1 ∧ x.1 ≤ topI p) (hpos : Pos l) (ht : tot l ≤ 1048576) (hR : ∀ q ∈ its p mn mx 0 l, R q)
    (J Jx : List (QE R) → World → Prop) (B : Nat) (hJ : AbidesFrom B J) (W : World) (hB : B ≤ W.heap.size)
    (hY : ∀ pre x W, J pre W → pre.length < l.length → YieldAt Fence.wide (n - 1) Try.prog lc (encQ x) W fun e W' =>
      (e = .returned (.bool true) ∧ J (pre ++ [x]) W' ∧ KK b1 b2 W W') ∨ (e = .returned (.bool false) ∧ Jx (pre ++ [x]) W'))
    (hL : LiesH b1 b2 o c p cc ss mn mx a l W) (hb1 : b1 < W.heap.size) (hb2 : b2 < W.heap.size) (h0 : J [] W) :
    CallsIn Fence.wide n Try.prog 80 #[.func (.yield lc) #[] #[], .pointer (some ⟨b2, 0, none⟩)] W fun e W' => (∃ v, e = .returned v) ∧
      ((∃ ys, valQ ys = its p mn mx 0 l ∧ J ys W') ∨ (∃ pre, valQ pre <+: its p mn mx 0 l ∧ Jx pre W')) := by
  have HJ := Lib.hid hJ
  have HY := Lib.hid hY
  have HL := Lib.hid hL
  have H0 := Lib.hid h0
  have HRR := Lib.hid hR
  have HD := Lib.hid (fun x (hx : x ∈ l) => pBounds_I p x.1 hp (hr x hx))
  have HT := Lib.hid (fun k => tot_take_le hpos k)
  have HN := Lib.hid (fun k => tot_nonneg (pos_take hpos k))
  have HP2 := Lib.hid hpos
  clear hJ hY hL h0 hR hr hpos
  have hmx : Try.prog.follows .mixedOrders = true := by kernel_rfl
  refine callsIn_of_wp Try.func80 rfl trivial ?_ rfl
  simp only [Try.ntmps80, List.size_toArray, List.length_cons, List.length_nil, Nat.reduceAdd, Nat.reduceSub, Array.replicate_succ, Array.replicate_zero, List.push_toArray, List.append_toArray, List.nil_append, List.cons_append]
  obtain ⟨g0, g1, g2, g3, g4, g5⟩ := HL.out.box
  gi_wp2
  clear g0 g1 g2 g3 g4 g5
  gi_loopw [3, 12] (fun vu vi wr => ∃ (k : Nat) (pre : List (QE R)), k ≤ l.length ∧ vu = .int .i64 (tot (l.take k)) ∧ vi = .int .i64 k ∧ Hid (valQ pre = (its p mn mx 0 l).take k ∧ pre.length = k) ∧ Hid (J pre wr) ∧ Hid (KK b1 b2 W wr)) (fun _ vi _ => l.length - (intOf vi).toNat)
  case atStart => exact ⟨0, [], Nat.zero_le _, rfl, rfl, ⟨rfl, rfl⟩, H0, KK.refl _ _ _⟩
  case round =>
    clear H0
    obtain ⟨k, pre, hk, rfl, rfl, HP, HJk, HK⟩ := hrel
    obtain ⟨g0, g1, g2, g3, g4, g5⟩ := (HL.out.kept HK.out).box
    by_cases hlt : k < l.length
    · obtain rfl := HL.out.at_ (by omega)
      obtain ⟨c1, c2⟩ := (HL.out.kept HK.out).cells k hlt
      have hsw := HK.out.2.2
      have hbw1 : b1 < wr.heap.size := by omega
      have hbw2 : b2 < wr.heap.size := by omega
      have D := Lib.hid (HD.out _ (List.getElem_mem hlt))
      have hmem := HRR.out _ (its_at (a := 0) (p := p) (mn := mn) (mx := mx) hlt)
      obtain ⟨X, hX⟩ : ∃ X : QE R, X.1 = itm p mn mx (0 + tot (l.take k)) l[k] := ⟨⟨_, hmem⟩, rfl⟩
      have HV : Hid (valQ (pre ++ [X]) = (its p mn mx 0 l).take (k + 1) ∧ (pre ++ [X]).length = k + 1) := by
        refine ⟨?_, ?_⟩
        · rw [valQ_snoc, HP.out.1, its_take _ _ _ _ _ _ hlt, hX]
        · rw [List.length_append, HP.out.2]
          rfl
      have HPX : Hid (valQ (pre ++ [X]) <+: its p mn mx 0 l) := by rw [HV.out.1]; exact List.take_prefix _ _
      have hts := tot_take_succ hlt
      have HTS := Lib.hid hts
      have t1 := HT.out k
      have t2 := HT.out (k + 1)
      have t3 := HN.out k
      have t4 := HN.out (k + 1)
      have hw1 : wrap64 (tot (l.take k) + l[k].2) = tot (l.take k) + l[k].2 := by unfold wrap64; omega
      have HW1 := Lib.hid hw1
      have HYX := Lib.hid (fun V hj => HY.out pre X V hj (by have := HP.out.2; omega))
      unfold itm at hX
      rw [Int.zero_add] at hX
      have HX := Lib.hid hX
      clear hts hw1 hX hmem t1 t2 t3 t4
      gi_wp2_with fail
      refine ⟨trivial, ?_⟩
      refine (callsIn_wide.2 (D.out _)).mono ?_
      rintro e w1 ⟨rfl, hb⟩
      have hb0 : Below wr.heap.size wr w1 := ((Below.refl _ wr).alloc (Nat.le_refl _) _).trans (hb.mono (by simp))
      have q1 : w1.cell? ⟨wr.heap.size, 1, none⟩ = some (.int .i64 l[k].2) := (hb.cell (p := ⟨wr.heap.size, 1, none⟩) (by simp)).trans (by simp)
      have g3' := (hb0.cell (p := ⟨b2, 3, none⟩) hbw2).trans g3
      have g4' := (hb0.cell (p := ⟨b2, 4, none⟩) hbw2).trans g4
      have hJ1 := abides_below HJ.out HJk.out hb0
      have HK1 : Hid (KK b1 b2 W w1) := HK.out.trans (KK.below hbw1 hbw2 hb0)
      have hw1 := HW1.out
      obtain ⟨fn, tmps, assign, body, hy, hRR⟩ := HYX.out w1 hJ1
      dsimp only [encQ] at hy
      rw [HX.out] at hy
      dsimp only at hy
      have HRu := Lib.hid hRR
      clear hb hb0 g0 g1 g2 g3 g4 g5 c1 c2 hJ1 HJk HK hRR HYX HX D
      generalize tot (l.take k) = T at *
      generalize loI p l[k].1 = z1 at *
      generalize hiI p l[k].1 = z2 at *
      generalize l[k].2 = x2 at *
      gi_wp2
      refine HRu.out.mono ?_
      rintro e W5 (⟨rfl, hj, hk5⟩ | ⟨rfl, hjx⟩)
      · have T3 := Lib.hid hj
        have T4 := Lib.hid hk5
        clear hj hk5 hy HRu
        gi_wp2
        go_roundw
        case rel => exact ⟨k + 1, _, by omega, by rw [HTS.out], by go_num, HV, T3, HK1.out.trans T4.out⟩
        case measure => simp [intOf]; omega
      · gi_wp2
        refine bodyPost_ret (results_none rfl _ _ _) rfl ?_
        exact ⟨⟨_, rfl⟩, .inr ⟨_, HPX.out, hjx⟩⟩
    · have HF : Hid (valQ pre = its p mn mx 0 l) := by
        rw [HP.out.1, List.take_of_length_le (by rw [its_length]; omega)]
        exact rfl
      have hi : ¬ (k : Int) < l.length := by omega
      clear HY
      gi_wp2
      go_end0
      exact ⟨⟨_, rfl⟩, .inl ⟨_, HF.out, HJk.out⟩⟩
theorem asc_in (dp : Nat) (p cc ss mn mx : Int) (a : Option Addr) (n c : Nat) (w : World) :
    CallsIn Fence.wide dp Try.prog 56 #[hV p cc ss mn mx a n c] w fun e w' => e = .returned (.func (.func 80) #[] #[.pointer (some ⟨w.heap.size, 0, none⟩)]) ∧ w' = w.alloc (.cells #[.int .i64 p, .int .i64 cc, .int .i64 ss, .int .i64 mn, .int .i64 mx, .slice a n c] 29) := by
  refine callsIn_of_wp Try.func56 rfl trivial ?_ rfl
  simp only [Try.ntmps56, List.size_toArray, List.length_cons, List.length_nil, Nat.reduceAdd, Nat.reduceSub, Array.replicate_succ, Array.replicate_zero, List.push_toArray, List.append_toArray, List.nil_append, List.cons_append]
  gi_wp2
  go_ret
  exact ⟨rfl, rfl⟩
theorem asc_stops (R : It → Prop) (n : Nat) (hn : 1 ≤ n) (b1 b2 o c : Nat) (p cc ss mn mx : Int) (a : Option Addr) (l : List B) (hl : l.length ≤ 500) (hp : 0 ≤ p ∧ p ≤ 8) (hr : ∀ x ∈ l, 0 ≤ x.1 ∧ x.1 ≤ topI p) (hpos : Pos l) (ht : tot l ≤ 1048576) (hR : ∀ q ∈ its p mn mx 0 l, R q) (w : World) (h1 : b1 < w.heap.size) (h2 : b2 < w.heap.size) (hL : LiesH b1 b2 o c p cc ss mn mx a l w) :
    SeqStopsK Fence.wide n Try.prog 80 #[.pointer (some ⟨b2, 0, none⟩)] encQ (KK b1 b2) (fun (ys : List (QE R)) => valQ ys = its p mn mx 0 l) (fun pre => valQ pre <+: its p mn mx 0 l) l.length w := fun lc J Jx W hW hJ _ hY h0 =>
  asc1_in R n hn lc b1 b2 o c p cc ss mn mx a l hl hp hr hpos ht hR J Jx W.heap.size hJ W (Nat.le_refl _) hY (hL.kept ⟨hW.block b1 h1, hW.block b2 h2, hW.size⟩) (Nat.lt_of_lt_of_le h1 hW.size) (Nat.lt_of_lt_of_le h2 hW.size) h0
theorem keeps_below {W W' : World} (h : Below W.heap.size W W') : KeepsOthers W W' := ⟨h.size, fun k o hk _ => (h.block k (Array.getElem?_eq_some_iff.1 hk).1).trans hk⟩
theorem boxed_below {W W' : World} {b : Nat} {t : TypeId} {v : Value} (h : Boxed W b t v) (hb : Below W.heap.size W W') : Boxed W' b t v := (hb.block b h.lt).trans h
theorem row_own {β : Type} (b : Nat) (t : TypeId) (f : β → Array Value) : Own (fun s W => W.heap[b]? = some (.cells (f s) t (0, 0))) := fun s X Y row hs hg hrow =>
  (hg.block b (Array.getElem?_eq_some_iff.1 hs).1 (fun e' => by obtain ⟨o, ho, hc⟩ := hrow b e'.symm; rw [hs] at ho; cases ho; cases hc)).trans hs
theorem cells3' {W : World} {b : Nat} {u v x : Value} {t : TypeId} (h : W.heap[b]? = some (.cells #[u, v, x] t (0, 0))) : W.cell? ⟨b, 0, none⟩ = some u ∧ W.cell? ⟨b, 1, none⟩ = some v ∧ W.cell? ⟨b, 2, none⟩ = some x := by simp [World.cell?, h]
/-- The histogram under its box lies. -/
theorem liesH_new (p cc ss mn mx : Int) (l : List B) (A : Option Addr) (c : Nat) (w V : World) (b2 : Nat) (hA : LS w w.heap.size A l) (hb : Below w.heap.size w V) (h2 : HC V b2 p cc ss mn mx A l.length c) (hlt : b2 < V.heap.size) : ∃ b1 o, LiesH b1 b2 o c p cc ss mn mx A l V ∧ b1 < V.heap.size ∧ (b1 < w.heap.size ∨ b1 = b2) := by
  by_cases hn : l = []
  · subst hn
    exact ⟨b2, 0, ⟨h2, fun h => by simp at h, fun j h => by simp at h⟩, hlt, .inr rfl⟩
  · obtain ⟨b, off, rfl, hbl, hc⟩ := hA hn
    exact ⟨b, off, ⟨h2, fun _ => rfl, fun j hj => ⟨(hb.cell (p := ⟨b, off + j * 2, none⟩) hbl).trans (hc j hj).1, (hb.cell (p := ⟨b, off + j * 2 + 1, none⟩) hbl).trans (hc j hj).2⟩⟩, Nat.lt_of_lt_of_le hbl hb.size, .inl hbl⟩
end Go.Proofs.Ytffnopdpndpngaa.Lh
