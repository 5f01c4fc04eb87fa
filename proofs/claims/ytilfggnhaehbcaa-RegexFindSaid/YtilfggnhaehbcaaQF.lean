/- Layer 6: whole rows inside a fence; slices.Backward. -/
import Derived.RangeFuncNested
import Derived.RangeFuncBound
import Derived.RangeFuncCalls
import Derived.RangeFuncLeaves
import Derived.RangeFuncBox
import Derived.Maps.AppendAt
import Derived.Maps.OwnIn
import Derived.Shelf.Abstract
import Derived.Shelf.RegionOpen
import Derived.OwnWalkIn
import Derived.TacticsInMore
import Derived.LoopNIn
import Derived.LoopIn
import Derived.Sort.CutIn
import Derived.Deep.QuietTactic
import Derived.BigQuiet
import Derived.Test.YtilfggnhaehbcaaQE
set_option linter.unusedVariables false
set_option linter.unusedSimpArgs false
namespace Go.Proofs.Ytilfggnhaehbcaa.Rx
open Go.RowKit
open Go.Shelf
attribute [local go_sem] Oper.semAt_some
section
variable {F : Fence} {n : Nat} {P : Program}
theorem wpListIn_of_value {ops : Array Oper} {rest : List Oper} {o : Oper} {a : Act} {w : World} {Q : Exit → Act → World → Prop} (hgd : o.guard = none) (hab : o.about P w a.eval = none) (hdef : ∀ c, o.op ≠ .defer c)
    (v : Value) (w' : World) (hr : (execOp a.eval o).run P w = .ok (.value v) w') (h : wpListIn F n P ops Q rest (a.put o.dst v) w') : wpListIn F n P ops Q (o :: rest) a w := by
  refine wpListIn_plain hgd fun K hK => ?_
  unfold Oper.wpIn
  refine ⟨fun f hf => (by rw [hab] at hf; cases hf), ?_⟩
  rw [Oper.semAt_plain F _ _ hdef, hr]
  exact hK _ _ h
theorem wpListIn_of_skip {ops : Array Oper} {rest : List Oper} {o : Oper} {a : Act} {w : World} {Q : Exit → Act → World → Prop} (hgd : o.guard = none) (hab : o.about P w a.eval = none) (hdef : ∀ c, o.op ≠ .defer c)
    (w' : World) (hr : (execOp a.eval o).run P w = .ok .skip w') (h : wpListIn F n P ops Q rest (a.put o.dst undef) w') : wpListIn F n P ops Q (o :: rest) a w := by
  refine wpListIn_plain hgd fun K hK => ?_
  unfold Oper.wpIn
  refine ⟨fun f hf => (by rw [hab] at hf; cases hf), ?_⟩
  rw [Oper.semAt_plain F _ _ hdef, hr]
  exact hK _ _ h
theorem wpListIn_alloc_abs {ops : Array Oper} {rest : List Oper} {o : Oper} {a : Act} {w : World} {Q : Exit → Act → World → Prop} (hgd : o.guard = none) (t : TypeId) (ho : o.op = .alloc t) (Z : List Value)
    (hz : (P.info? t).map (·.zero) = some (some (.agg Z.toArray)))
    (h : ∀ g w', Hid (w.heap.size = g) → Hid (Blk w' g t Z) → Hid (KeepsOthers w w') → Hid (Below w.heap.size w w') → Hid (w'.heap.size = g + 1) → wpListIn F n P ops Q rest (a.put o.dst (.pointer (some ⟨g, 0, none⟩))) w') : wpListIn F n P ops Q (o :: rest) a w := by
  refine wpListIn_of_value hgd (by simp [Oper.about, ho]) (by rw [ho]; intro c hc; cases hc) (.pointer (some ⟨w.heap.size, 0, none⟩)) (w.alloc (.cells Z.toArray t)) ?_ (h w.heap.size _ rfl (Blk.new w t Z) (KeepsOthers.alloc _ _) ((Below.refl _ _).alloc (Nat.le_refl _) _) (by show (World.alloc _ _).heap.size = _; rw [World.size_alloc]))
  unfold execOp
  cases hq : P.info? t with
  | none => rw [hq] at hz; cases hz
  | some i =>
    have hi : i.zero = some (.agg Z.toArray) := by rw [hq] at hz; simpa using hz
    simp [ho, Instr.alloc, zeroValue, typeInfo, hq, hi, newVar, newRow, run_newObj_alloc, Value.cells]
theorem keepsOthers_setRow {w : World} {g : Nat} {t : TypeId} {old : List Value} (hg : Blk w g t old) (l : List Value) : KeepsOthers w (w.setRow g l.toArray) := by
  refine ⟨by rw [setRow_size]; exact Nat.le_refl _, fun k o hk ho => ?_⟩
  by_cases e : k = g
  · subst e
    have h : w.heap[k]? = _ := hg
    rw [h] at hk
    injection hk with hk
    subst hk
    cases ho
  · exact (setRow_other _ _ _ _ e).trans hk
theorem wpListIn_store_abs {ops : Array Oper} {rest : List Oper} {o : Oper} {a : Act} {w : World} {Q : Exit → Act → World → Prop} (hgd : o.guard = none) (ty : TypeId) (x y : Operand) (ho : o.op = .store ty x y) (hd : o.dst = none)
    (g : Nat) (l : List Value) (hx : a.eval x = .pointer (some ⟨g, 0, none⟩)) (hy : a.eval y = .agg l.toArray)
    (t : TypeId) (old : List Value) (hg : Blk w g t old) (m : Nat) (hi : (P.info? ty).map (·.size) = some m) (hn : l.length = m)
    (hold : old.length = m) (h1 : ∀ v ∈ l, v.oneCell' = true)
    (h : ∀ w', Hid (Blk w' g t l) → Hid (KeepsOthers w w') → Hid (But (· = g) w w') → Hid (w'.heap.size = w.heap.size) → wpListIn F n P ops Q rest a w') : wpListIn F n P ops Q (o :: rest) a w := by
  have hrun : (execOp a.eval o).run P w = .ok .skip (w.setRow g l.toArray) := by
    unfold execOp
    simp only [ho, hx, hy, Instr.storeAt, Instr.sureAddr, Sem.run_bind, Sem.run_pure, Result.andThen_ok, run_storeVar_row w g t ty old.toArray l.toArray hg (by simpa [hn] using hi) (by simp; omega) (all_oneCell_toArray h1)]
  refine wpListIn_of_skip hgd (by simp [Oper.about, ho]) (by rw [ho]; intro c hc; cases hc) _ hrun ?_
  rw [hd]
  exact h _ (hg.setRow l) (keepsOthers_setRow hg l) (But.setRow (S := (· = g)) (But.refl _ w) (fun _ => rfl) _) (setRow_size _ _ _)
theorem wpListIn_load_abs {ops : Array Oper} {rest : List Oper} {o : Oper} {a : Act} {w : World} {Q : Exit → Act → World → Prop} (hgd : o.guard = none) (ty : TypeId) (x : Operand) (ho : o.op = .load ty x)
    (b off : Nat) (hx : a.eval x = .pointer (some ⟨b, off, none⟩)) (cs : List Value) (hc : w.rangeAt b off cs) (d : TypeDesc)
    (hu : P.underlying ty = some d) (hd : d.isRow = true) (m : Nat) (hi : (P.info? ty).map (·.size) = some m) (hn : cs.length = m)
    (h : wpListIn F n P ops Q rest (a.put o.dst (.agg cs.toArray)) w) : wpListIn F n P ops Q (o :: rest) a w := by
  refine wpListIn_of_value hgd (by simp [Oper.about, ho]) (by rw [ho]; intro c hc; cases hc) (.agg cs.toArray) w ?_ h
  unfold execOp
  simp only [ho, hx, Instr.loadAt, Instr.sureAddr, Sem.run_bind, Sem.run_pure, Result.andThen_ok, run_loadVar_mid w b off ty cs d hc hu hd (hi.trans (by rw [hn]))]
end
/-- The places from the last down to k. -/
def bk (n k : Nat) : List (Fin n) := ((List.finRange n).drop k).reverse
theorem bk_all (n : Nat) : bk n n = [] := by simp [bk]
theorem bk_zero (n : Nat) : bk n 0 = (List.finRange n).reverse := by simp [bk]
theorem bk_step {n k : Nat} (h : k < n) : bk n k = bk n (k + 1) ++ [⟨k, h⟩] := by
  unfold bk
  rw [List.drop_eq_getElem_cons (by simpa using h), List.reverse_cons]
  congr 2
  simp
theorem bk_len {n k : Nat} : (bk n k).length = n - k := by simp [bk]
theorem backward_any (A : Option Addr) (n c : Nat) (w : World) : Calls Try.prog 80 #[.slice A n c] w fun e w' => e = .returned (.func (.func 85) #[] #[.pointer (some ⟨w.heap.size, 0, none⟩)]) ∧ w.alloc (.cells #[.slice A n c] 43) = w' := by
  go_enter Try.func80, Try.ntmps80
  go_wp2_with fail
  go_ret
  exact ⟨rfl, rfl⟩
abbrev encB {n : Nat} (Cs : Nat → List Value) (j : Fin n) : Array Value := #[.int .i64 (j.1 : Int), .agg (Cs j.1).toArray]
/-- What a round keeps: what lies below B, and the iterator's box. -/
structure KpB (B bx : Nat) (W W' : World) : Prop where
  low : Below B W W'
  box : W'.heap[bx]? = W.heap[bx]?
theorem KpB.refl (B bx : Nat) (W : World) : KpB B bx W W := ⟨Below.refl _ _, rfl⟩
theorem KpB.trans {B bx : Nat} {X Y Z : World} (h : KpB B bx X Y) (k : KpB B bx Y Z) : KpB B bx X Z := ⟨h.low.trans k.low, k.box.trans h.box⟩
set_option maxHeartbeats 4000000 in
set_option maxRecDepth 100000 in
theorem backward1_in (n : Nat) (hn : 1 ≤ n) (lc B bx g cap len : Nat) (hlen : len ≤ 1000000) (Cs : Nat → List Value) (hCs : ∀ j, j < len → (Cs j).length = 260) (hgB : 0 < len → g < B)
    (J Jx : List (Fin len) → World → Prop) (W : World)
    (hY : ∀ pre x W, J pre W → pre.length < len → YieldAt Fence.wide (n - 1) Try.prog lc (encB Cs x) W fun e W' =>
      (e = .returned (.bool true) ∧ J (pre ++ [x]) W' ∧ KpB B bx W W') ∨ (e = .returned (.bool false) ∧ Jx (pre ++ [x]) W'))
    (hbx : bx < W.heap.size) (A : Option Addr) (hA : 0 < len → A = some ⟨g, 0, none⟩) (h1 : W.cell? ⟨bx, 0, none⟩ = some (.slice A len cap)) (hR : ∀ j, j < len → W.rangeAt g (j * 260) (Cs j)) (h0 : J [] W) :
    CallsIn Fence.wide n Try.prog 85 #[.func (.yield lc) #[] #[], .pointer (some ⟨bx, 0, none⟩)] W fun e W' => (∃ v, e = .returned v) ∧
      ((∃ ys, ys = bk len 0 ∧ J ys W') ∨ (∃ pre, True ∧ Jx pre W')) := by
  have HY := Lib.hid hY
  have HCS := Lib.hid hCs
  have HR := Lib.hid hR
  have HA := Lib.hid hA
  have H0 := Lib.hid h0
  have HBX := Lib.hid h1
  clear hY hCs hR hA h0
  refine callsIn_of_wp Try.func85 rfl trivial ?_ rfl
  simp only [Try.ntmps85, List.size_toArray, List.length_cons, List.length_nil, Nat.reduceAdd, Nat.reduceSub, Array.replicate_succ, Array.replicate_zero, List.push_toArray, List.append_toArray, List.nil_append, List.cons_append]
  gi_wp2
  gi_loopw [3] (fun vi wr => ∃ k : Nat, k ≤ len ∧ vi = .int .i64 ((k : Int) - 1) ∧ Hid (J (bk len k) wr) ∧ Hid (KpB B bx W wr)) (fun vi _ => (intOf vi + 1).toNat)
  case atStart => exact ⟨len, Nat.le_refl _, by go_num, by (show J _ _; rw [bk_all]; exact H0.out), KpB.refl _ _ _⟩
  case round =>
    clear H0
    obtain ⟨k, hk, rfl, HJ, HK⟩ := hrel
    have hb : wr.cell? ⟨bx, 0, none⟩ = some (.slice A len cap) := (World.cell?_of_block (w := W) (HK.out.box)).trans HBX.out
    cases k with
    | zero =>
      gi_wp2
      go_end0
      exact ⟨⟨_, rfl⟩, .inl ⟨_, rfl, HJ.out⟩⟩
    | succ k =>
      obtain ⟨fn, tmps, assign, body, hy, hR⟩ := HY.out _ ⟨k, hk⟩ wr HJ.out (by rw [bk_len]; omega)
      dsimp only [encB] at hy
      have HRR := Lib.hid hR
      clear hR
      obtain rfl : A = some ⟨g, 0, none⟩ := HA.out (by omega)
      have hC : wr.rangeAt g (k * 260) (Cs k) := fun j v hv => (HK.out.low.cell (p := ⟨g, k * 260 + j, none⟩) (hgB (by omega))).trans (HR.out k hk j v hv)
      have HC := Lib.hid hC
      have HCL := Lib.hid (HCS.out k hk)
      have hkk : ((k + 1 : Nat) : Int) - 1 = (k : Int) := by omega
      rw [hkk]
      clear hC hkk
      generalize Cs k = C at *
      gi_wp2_with ((with_reducible refine wpListIn_load_abs (o := ⟨_, .load 47 (.tmp 15), _, _, _, _⟩) rfl 47 _ rfl g (k * 260) ?_ C HC.out _ Try.underlying47 rfl 260 size47 HCL.out ?_); (· rfl))
      refine HRR.out.mono ?_
      rintro e W3 (⟨rfl, hJ3, hk3⟩ | ⟨rfl, hJx3⟩)
      · gi_wp2
        go_roundw
        case rel => exact ⟨k, by omega, by go_num, by (show J _ _; rw [bk_step hk]; exact hJ3), HK.out.trans hk3⟩
        case measure => (simp [intOf] <;> omega)
      · gi_wp2
        refine bodyPost_ret (results_none rfl _ _ _) rfl ?_
        exact ⟨⟨_, rfl⟩, .inr ⟨_, trivial, hJx3⟩⟩
end Go.Proofs.Ytilfggnhaehbcaa.Rx
