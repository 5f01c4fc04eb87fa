
/- Layer 6: the program's automaton in memory; add, fork, read. Layer 6: atom and factor of the automaton. Layer 6: factor of the automaton. Layer 6: expression of the automaton. Layer 6: whole rows inside a fence; slices.Backward. Layer 6: factor of the automaton: loops. Layer 6: alternative of the automaton. Layer 6: alternative of the automaton: the walk; every expression. Layer 6: compile of the program. -/
import Derived.Test.YtdeppcddknakjaaGreatDoorCPi
import Derived.Deep.RegionWith
import Derived.Deep.CutRange
import Derived.RangeFuncNested
import Derived.RangeFuncBound
import Derived.RangeFuncCalls
import Derived.RangeFuncLeaves
import Derived.RangeFuncBox
import Derived.Maps.AppendAt
import Derived.Maps.OwnIn
import Derived.Shelf.Abstract
import Derived.Shelf.RegionOpen
import Derived.OwnWalkIn
import Derived.TacticsInMore
import Derived.LoopNIn
import Derived.LoopIn
import Derived.Sort.CutIn
import Derived.Deep.QuietTactic
import Derived.BigQuiet
set_option maxRecDepth 100000
set_option linter.unusedVariables false
set_option linter.unusedSimpArgs false
namespace Go.Proofs.YtdeppcddknakjaaGreatDoor.Rx
open Go.RowKit
/-- A state in memory. -/
def NdV (w : World) (T : Nat → Prop) (v : Value) : Nd → Prop
 | .fin => v = .func (.func 196) #[] #[]
 | .hole => v = Value.nilFunc
 | .read f nx => ∃ b1 b2, v = .func (.func 219) #[] #[.pointer (some ⟨b1, 0, none⟩), .pointer (some ⟨b2, 0, none⟩)] ∧ T b1 ∧ T b2 ∧ w.rangeAt b1 0 (clsC f) ∧ w.cell? ⟨b2, 0, none⟩ = some (.int .i64 nx)
 | .fork l => ∃ b1 A cap, v = .func (.func 214) #[] #[.pointer (some ⟨b1, 0, none⟩)] ∧ T b1 ∧ w.cell? ⟨b1, 0, none⟩ = some (.slice A l.length cap) ∧ (l ≠ [] → ∃ g, A = some ⟨g, 0, none⟩ ∧ T g ∧ ∀ j (h : j < l.length), w.cell? ⟨g, j, none⟩ = some (.int .i64 (l[j] : Nat)))
theorem NdV.keep {w w' : World} {T T' : Nat → Prop} {v : Value} {x : Nd} (h : NdV w T v x) (hT : ∀ k, T k → T' k) (hk : ∀ b j, T b → w'.cell? ⟨b, j, none⟩ = w.cell? ⟨b, j, none⟩) : NdV w' T' v x := by
 cases x with
 | fin => exact h
 | hole => exact h
 | read f nx =>
  obtain ⟨b1, b2, h1, h2, h3, h4, h5⟩ := h
  exact ⟨b1, b2, h1, hT _ h2, hT _ h3, rangeAt_keep h4 (hk b1 · h2), (hk b2 0 h3).trans h5⟩
 | fork l =>
  obtain ⟨b1, A, cap, h1, h2, h3, h4⟩ := h
  refine ⟨b1, A, cap, h1, hT _ h2, (hk b1 0 h2).trans h3, fun hl => ?_⟩
  obtain ⟨g, h5, h6, h7⟩ := h4 hl
  exact ⟨g, h5, hT _ h6, fun j hj => (hk g j h6).trans (h7 j hj)⟩
theorem NdV.one {w : World} {T : Nat → Prop} {v : Value} {x : Nd} (h : NdV w T v x) : v.cells = #[v] ∧ v.oneCell' = true := by
 cases x with
 | fin => cases h; exact ⟨rfl, rfl⟩
 | hole => cases h; exact ⟨rfl, rfl⟩
 | read f nx => obtain ⟨b1, b2, rfl, _⟩ := h; exact ⟨rfl, rfl⟩
 | fork l => obtain ⟨b1, A, cap, rfl, _⟩ := h; exact ⟨rfl, rfl⟩
/-- States as cells. -/
def NdsL (w : World) (T : Nat → Prop) (xs : List Value) (M : List Nd) : Prop := xs.length = M.length ∧ ∀ j (h : j < M.length), ∃ v, xs[j]? = some v ∧ NdV w T v M[j]
theorem NdsL.keep {w w' : World} {T T' : Nat → Prop} {xs : List Value} {M : List Nd} (h : NdsL w T xs M) (hT : ∀ k, T k → T' k) (hk : ∀ b j, T b → w'.cell? ⟨b, j, none⟩ = w.cell? ⟨b, j, none⟩) : NdsL w' T' xs M :=
 ⟨h.1, fun j hj => by
  obtain ⟨v, h1, h2⟩ := h.2 j hj
  exact ⟨v, h1, h2.keep hT hk⟩⟩
theorem NdsL.nil (w : World) (T : Nat → Prop) : NdsL w T [] [] := ⟨rfl, fun j hj => by simp at hj⟩
theorem NdsL.snoc {w : World} {T : Nat → Prop} {xs : List Value} {M : List Nd} {v : Value} {x : Nd} (h : NdsL w T xs M) (hv : NdV w T v x) : NdsL w T (xs ++ [v]) (M ++ [x]) := by
 refine ⟨by simp [h.1], fun j hj => ?_⟩
 rw [List.length_append, List.length_singleton] at hj
 rcases Nat.lt_or_ge j M.length with hlt | hge
 ·obtain ⟨u, h1, h2⟩ := h.2 j hlt
  exact ⟨u, by rw [List.getElem?_append_left (by rw [h.1]; exact hlt)]; exact h1, by rw [List.getElem_append_left hlt]; exact h2⟩
 ·obtain rfl : j = M.length := by omega
  exact ⟨v, by rw [List.getElem?_append_right (by rw [h.1]; omega), h.1]; simp, by rw [List.getElem_append_right (Nat.le_refl _)]; simpa using hv⟩
theorem NdsL.set {w : World} {T : Nat → Prop} {xs : List Value} {M : List Nd} {v : Value} {x : Nd} {k : Nat} (h : NdsL w T xs M) (hv : NdV w T v x) : NdsL w T (xs.set k v) (M.set k x) := by
 refine ⟨by simp [h.1], fun j hj => ?_⟩
 rw [List.length_set] at hj
 obtain ⟨u, h1, h2⟩ := h.2 j hj
 by_cases hjk : k = j
 ·subst hjk
  exact ⟨v, by rw [List.getElem?_set_self (by rw [h.1]; exact hj)], by rw [List.getElem_set_self]; exact hv⟩
 ·exact ⟨u, by rw [List.getElem?_set_ne hjk]; exact h1, by rw [List.getElem_set_ne hjk]; exact h2⟩
/-- The blocks of an automaton, but its own and that of its states. -/
def TA (w : World) (B ab : Nat) (v : Value) (n : Nat) : Prop := B ≤ n ∧ n < w.heap.size ∧ n ≠ ab ∧ some n ≠ v.ownBlock
/-- An automaton at ab, from block B on: the slice v holds the states M; what they lead to lies in T. -/
structure Aut (w : World) (B ab : Nat) (v : Value) (T : Nat → Prop) (M : List Nd) : Prop where
 blk : ∃ n : Int, Blk w ab 181 [v, .int .i64 n]
 base : B ≤ ab
 row : ∃ xs, w.ownsRow B 217 1 v M.length xs ∧ NdsL w T xs M
 sub : ∀ n, T n → TA w B ab v n
theorem Aut.lt {w : World} {B ab : Nat} {v : Value} {T : Nat → Prop} {M : List Nd} (h : Aut w B ab v T M) : ab < w.heap.size := by obtain ⟨n, hb⟩ := h.blk; exact hb.lt
theorem Aut.ne {w : World} {B ab : Nat} {v : Value} {T : Nat → Prop} {M : List Nd} (h : Aut w B ab v T M) : some ab ≠ v.ownBlock := by
 obtain ⟨n, hb⟩ := h.blk
 obtain ⟨xs, hr, _⟩ := h.row
 intro e
 rcases hr.2 with ⟨rfl, _⟩ | ⟨g, cap, cur, rfl, _, hg, _⟩
 ·cases e
 ·have e : some ab = some g := e
  injection e with e
  subst e
  have hb' : w.heap[ab]? = _ := hb
  rw [hg] at hb'
  injection hb' with hb'
  injection hb' with _ h2 _
  cases h2
theorem Aut.rowLt {w : World} {B ab : Nat} {v : Value} {T : Nat → Prop} {M : List Nd} (h : Aut w B ab v T M) : ∀ k, v.ownBlock = some k → B ≤ k ∧ k < w.heap.size := by obtain ⟨xs, hr, _⟩ := h.row; exact World.ownsRow.lt hr
/-- What may be written. -/
def AutS (ab : Nat) (v : Value) (n : Nat) : Prop := n = ab ∨ some n = v.ownBlock
/-- Where the states lie behind a step: as before, or in a new block. -/
def RowTo (w : World) (v v' : Value) : Prop := v'.ownBlock = v.ownBlock ∨ ∀ k, v'.ownBlock = some k → w.heap.size ≤ k
theorem RowTo.refl (w : World) (v : Value) : RowTo w v v := .inl rfl
theorem RowTo.trans {w w1 : World} {v v1 v2 : Value} (h : RowTo w v v1) (k : RowTo w1 v1 v2) (hs : w.heap.size ≤ w1.heap.size) : RowTo w v v2 := by
 rcases k with e | e
 ·rcases h with e' | e'
  ·exact .inl (e.trans e')
  ·exact .inr (fun n hn => e' n (by rw [← e]; exact hn))
 ·exact .inr (fun n hn => Nat.le_trans hs (e n hn))
theorem But.aut {ab : Nat} {w w1 w2 : World} {v v1 : Value} (h : But (AutS ab v) w w1) (k : But (AutS ab v1) w1 w2) (hr : RowTo w v v1) : But (AutS ab v) w w2 := h.trans k (fun n hn hs => by
 rcases hs with rfl | hs
 ·exact .inl rfl
 ·rcases hr with e | e
  ·exact .inr (by rw [← e]; exact hs)
  ·have := e n hs.symm
   omega)
/-- An automaton is not touched. -/
theorem Aut.off {S : Nat → Prop} {w w' : World} {B ab : Nat} {v : Value} {T : Nat → Prop} {M : List Nd} (h : Aut w B ab v T M) (k : But S w w') (hS : ∀ n, S n → n < w.heap.size → n ≠ ab ∧ some n ≠ v.ownBlock ∧ ¬ T n) : Aut w' B ab v T M := by
 obtain ⟨n, hb⟩ := h.blk
 obtain ⟨xs, hr, hn⟩ := h.row
 refine ⟨⟨n, hb.but k (fun hs => (hS ab hs h.lt).1 rfl)⟩, h.base, ⟨xs, ?_, hn.keep (fun _ h => h) (fun b j hb => k.cell (p := ⟨b, j, none⟩) (h.sub b hb).2.1 (fun hs => (hS b hs (h.sub b hb).2.1).2.2 hb))⟩, fun n hn => ⟨(h.sub n hn).1, Nat.lt_of_lt_of_le (h.sub n hn).2.1 k.size, (h.sub n hn).2.2⟩⟩
 refine ⟨hr.1, ?_⟩
 rcases hr.2 with h0 | ⟨g, cap, cur, e, h1, h2, h3⟩
 ·exact .inl h0
 ·have hg := (Array.getElem?_eq_some_iff.1 h2).1
  exact .inr ⟨g, cap, cur, e, h1, (k.block g hg (fun hs => (hS g hs hg).2.1 (by rw [e]; rfl))).trans h2, h3⟩
theorem Aut.on {S : Nat → Prop} {w w' : World} {B ab : Nat} {v : Value} {T : Nat → Prop} {M : List Nd} (h : Aut w B ab v T M) (k : But S w w') (hS : ∀ n, S n → n < B ∨ w.heap.size ≤ n) : Aut w' B ab v T M :=
 h.off k (fun n hs hn => by
  have hB : n < B := by rcases hS n hs with h | h <;> omega
  exact ⟨by have := h.base; omega, fun e => by have := (h.rowLt n e.symm).1; omega, fun ht => by have := (h.sub n ht).1; omega⟩)
def AutP (ab B : Nat) (v : Value) (T : Nat → Prop) (w : World) (i : Nat) (M' : List Nd) (e : Ending) (w' : World) : Prop :=
 e = .returned (.int .i64 (i : Int)) ∧ ∃ v' T', Hid (Aut w' B ab v' T' M') ∧ Hid (But (AutS ab v) w w') ∧ Hid (RowTo w v v') ∧ Hid (∀ n, T' n → T n ∨ w.heap.size ≤ n)
def AddP (ab B : Nat) (v : Value) (T : Nat → Prop) (w : World) (i : Nat) (M' : List Nd) (e : Ending) (w' : World) : Prop :=
 e = .returned (.int .i64 (i : Int)) ∧ ∃ v', Hid (Aut w' B ab v' T M') ∧ Hid (But (AutS ab v) w w') ∧ Hid (RowTo w v v')
theorem info104 : (Tryz.prog.info? 217).map (fun i => (i.zero, i.size, i.bytes)) = some (some (.agg #[Value.nilFunc]), 1, 8) := by kernel_rfl
theorem size69 : (Tryz.prog.info? 179).map (·.size) = some 1 := by kernel_rfl
theorem fork_any (A : Option Addr) (n c : Nat) (w : World) : Calls Tryz.prog 208 #[.slice A n c] w fun e w' => e = .returned (.func (.func 214) #[] #[.pointer (some ⟨w.heap.size, 0, none⟩)]) ∧ w.alloc (.cells #[.slice A n c] 57) = w' := by
 go_enter Tryz.func208, Tryz.ntmps208
 go_wp2_with fail
 go_ret
 exact ⟨rfl, rfl⟩
set_option maxHeartbeats 4000000 in
set_option maxRecDepth 100000 in
theorem read_any (f : UInt8 → Bool) (C : List Value) (hC : C = clsC f) (nx : Nat) (w : World) : Calls Tryz.prog 218 #[.agg C.toArray, .int .i64 (nx : Int)] w fun e w' => ∃ v, e = .returned v ∧ Hid (NdV w' (Fresh w w') v (.read f nx)) ∧ Hid (Below w.heap.size w w') := by
 have HC := Lib.hid hC
 clear hC
 go_enter Tryz.func218, Tryz.ntmps218
 go_wp2_with fail
 go_ret
 refine ⟨_, rfl, ⟨w.heap.size, w.heap.size + 1, rfl, ⟨Nat.le_refl _, by simp; omega⟩, ⟨by omega, by simp⟩, ?_, ?_⟩, ((Below.refl _ _).alloc (Nat.le_refl _) _).alloc (by simp) _⟩
 ·rw [← HC.out]
  exact ((Blk.new w 162 C).alloc _).range
 ·have h := (Blk.new (w.alloc (.cells C.toArray 162)) 3 [.int .i64 (nx : Int)]).cell 0
  rw [World.size_alloc] at h
  exact h
theorem own_form {w : World} {B : Nat} {e : TypeId} {v : Value} {n : Nat} {xs : List Value} (h : w.ownsRow B e 1 v n xs) : ∃ A c, v = .slice A n c := by
 rcases h.2 with ⟨rfl, rfl⟩ | ⟨g, cap, cur, rfl, _⟩
 ·exact ⟨_, _, rfl⟩
 ·exact ⟨_, _, rfl⟩
theorem own_one' {w : World} {B : Nat} {e : TypeId} {v : Value} {n : Nat} {xs : List Value} (h : w.ownsRow B e 1 v n xs) : v.oneCell' = true := by
 obtain ⟨A, c, rfl⟩ := own_form h
 rfl
set_option maxHeartbeats 4000000 in
set_option maxRecDepth 100000 in
theorem add_func (ab B : Nat) (v : Value) (T T1 : Nat → Prop) (M : List Nd) (x : Nd) (fn : Nat) (cap : Array Value) (w : World) (ha : Aut w B ab v T M) (hv : NdV w T1 (Value.func (.func fn) #[] cap) x) (hT1 : ∀ n, T1 n → TA w B ab v n) (hM : M.length ≤ 1000000000) : Calls Tryz.prog 195 #[.pointer (some ⟨ab, 0, none⟩), (Value.func (.func fn) #[] cap)] w (AddP ab B v (fun n => T n ∨ T1 n) w M.length (M ++ [x])) := by
 obtain ⟨n0, hb⟩ := ha.blk
 obtain ⟨xs, hr, hn⟩ := ha.row
 have HA := Lib.hid ha
 have HB := Lib.hid hb
 have HR := Lib.hid hr
 have HN := Lib.hid hn
 have HV := Lib.hid hv
 have HT1 := Lib.hid hT1
 have c0 : w.cell? ⟨ab, 0, none⟩ = some v := hb.cell 0
 obtain ⟨i0, hi, hz0, hz1, hz2⟩ := info_parts info104
 have HI := Lib.hid hi
 have HZ0 := Lib.hid hz0
 have HZ1 := Lib.hid hz1
 have HZ2 := Lib.hid hz2
 clear hi hz0 hz1 hz2 ha hb hr hn hv hT1
 go_enter Tryz.func195, Tryz.ntmps195
 have k1 : Hid (Blk (w.alloc (.cells #[(Value.func (.func fn) #[] cap)] 217)) w.heap.size 217 [(Value.func (.func fn) #[] cap)]) := Blk.new w 217 [(Value.func (.func fn) #[] cap)]
 have b1 : Hid (Below w.heap.size w (w.alloc (.cells #[(Value.func (.func fn) #[] cap)] 217))) := (Below.refl _ _).alloc (Nat.le_refl _) _
 go_wp2_with (first
  | (at_builtin; refine wpList_append_own_at _ rfl (.tmp 9) (.tmp 12) 179 rfl B 217 i0 (.agg #[Value.nilFunc]) 1 8 Tryz.underlying179 HI.out HZ0.out HZ1.out HZ2.out rfl (by decide) v M.length xs rfl (HR.out.alloc _) ⟨w.heap.size, 0, none⟩ 1 1 [(Value.func (.func fn) #[] cap)] rfl rfl (fun j u hu => by have h := k1.out.range j u hu; rw [Nat.zero_add] at h; rw [Addr.add_mid, Nat.zero_add]; exact h) (by simp [Value.oneCell']) (by simp only [maxLen]; omega) (by omega) (by have := HA.out.base; have := HA.out.lt; rw [World.size_alloc]; omega) ?_; intro v3 w3 ho3 hg3 _ hor3; have O3 := Lib.hid ho3; have G3 := Lib.hid hg3; have OR3 := Lib.hid hor3; have K3 : Hid (Blk w3 ab 181 [v, .int .i64 n0]) := (hg3.block ab (by have := HA.out.lt; rw [World.size_alloc]; omega) HA.out.ne).trans (HB.out.alloc _); clear ho3 hg3 hor3)
  | ((with_reducible refine wpList_store_cell (o := ⟨_, .store 179 (.tmp 15) (.tmp 13), _, _, _, _⟩) rfl 179 _ _ rfl rfl ab 0 v3 ?_ ?_ (own_one' O3.out) 181 [v, .int .i64 n0] K3.out (by simp) size69 ?_); (· rfl); (· rfl); intro w4 k4 b4 s4; obtain ⟨A3, c3, hv3⟩ := own_form O3.out; subst hv3; have c4 : w4.cell? ⟨ab, 0, none⟩ = _ := k4.out.cell 0))
 go_ret
 have SZ : w.heap.size + 1 ≤ w3.heap.size := by have := G3.out.size; rw [World.size_alloc] at this; exact this
 have LT := HA.out.lt
 have RL := HA.out.rowLt
 have hrow4 : ∀ k, (Value.slice A3 (M.length + 1) c3).ownBlock = some k → k ≠ ab := fun k hk e => by
  subst e
  rcases OR3.out with h | h
  ·exact HA.out.ne (by rw [← h, hk])
  ·rw [h] at hk
   injection hk with hk
   rw [World.size_alloc] at hk
   omega
 have hT : ∀ b, TA w B ab v b → TA w4 B ab (.slice A3 (M.length + 1) c3) b := fun b hb => ⟨hb.1, by have := hb.2.1; have := s4.out; omega, hb.2.2.1, fun e => by
  rcases OR3.out with h | h
  ·exact hb.2.2.2 (by rw [← h]; exact e)
  ·rw [h] at e
   injection e with e
   have := hb.2.1
   rw [World.size_alloc] at e
   omega⟩
 have hk : ∀ b j, TA w B ab v b → w4.cell? ⟨b, j, none⟩ = w.cell? ⟨b, j, none⟩ := fun b j hb => by
  have e1 := b1.out.cell (p := ⟨b, j, none⟩) hb.2.1
  have e2 : w3.cell? ⟨b, j, none⟩ = _ := World.cell?_of_block (G3.out.block b (by have := hb.2.1; rw [World.size_alloc]; omega) hb.2.2.2)
  have e3 := b4.out.cell (p := ⟨b, j, none⟩) (by have := hb.2.1; show b < _; omega) hb.2.2.1
  exact e3.trans (e2.trans e1)
 refine ⟨by simp, _, ⟨⟨n0, k4.out⟩, HA.out.base, ⟨xs ++ [(Value.func (.func fn) #[] cap)], ?_, NdsL.snoc (HN.out.keep (fun _ h => .inl h) (fun b j hb => hk b j (HA.out.sub b hb))) (HV.out.keep (fun _ h => .inr h) (fun b j hb => hk b j (HT1.out b hb)))⟩, fun n hn => hT n (by rcases hn with hn | hn; exact HA.out.sub n hn; exact HT1.out n hn)⟩, ?_, ?_⟩
 ·rw [List.length_append, List.length_singleton]
  have h := O3.out
  refine ⟨h.1, ?_⟩
  rcases h.2 with h0 | ⟨g, cap, cur, e, h1, h2, h3⟩
  ·exact .inl h0
  ·exact .inr ⟨g, cap, cur, e, h1, (b4.out.block g (Array.getElem?_eq_some_iff.1 h2).1 (hrow4 g (by rw [e]; rfl))).trans h2, h3⟩
 ·have h1 : But (AutS ab v) w w3 := ((But.of_below b1.out).grown G3.out (fun k e _ => .inr e.symm))
  exact h1.row b4.out (fun _ => .inl rfl)
 ·rcases OR3.out with h | h
  ·exact .inl h
  ·refine .inr (fun k hk => ?_)
   rw [h] at hk
   injection hk with hk
   rw [World.size_alloc] at hk
   omega
set_option maxHeartbeats 4000000 in
set_option maxRecDepth 100000 in
theorem add_nil (ab B : Nat) (v : Value) (T T1 : Nat → Prop) (M : List Nd) (x : Nd)  (w : World) (ha : Aut w B ab v T M) (hv : NdV w T1 Value.nilFunc x) (hT1 : ∀ n, T1 n → TA w B ab v n) (hM : M.length ≤ 1000000000) : Calls Tryz.prog 195 #[.pointer (some ⟨ab, 0, none⟩), Value.nilFunc] w (AddP ab B v (fun n => T n ∨ T1 n) w M.length (M ++ [x])) := by
 obtain ⟨n0, hb⟩ := ha.blk
 obtain ⟨xs, hr, hn⟩ := ha.row
 have HA := Lib.hid ha
 have HB := Lib.hid hb
 have HR := Lib.hid hr
 have HN := Lib.hid hn
 have HV := Lib.hid hv
 have HT1 := Lib.hid hT1
 have c0 : w.cell? ⟨ab, 0, none⟩ = some v := hb.cell 0
 obtain ⟨i0, hi, hz0, hz1, hz2⟩ := info_parts info104
 have HI := Lib.hid hi
 have HZ0 := Lib.hid hz0
 have HZ1 := Lib.hid hz1
 have HZ2 := Lib.hid hz2
 clear hi hz0 hz1 hz2 ha hb hr hn hv hT1
 go_enter Tryz.func195, Tryz.ntmps195
 have k1 : Hid (Blk (w.alloc (.cells #[Value.nilFunc] 217)) w.heap.size 217 [Value.nilFunc]) := Blk.new w 217 [Value.nilFunc]
 have b1 : Hid (Below w.heap.size w (w.alloc (.cells #[Value.nilFunc] 217))) := (Below.refl _ _).alloc (Nat.le_refl _) _
 go_wp2_with (first
  | (at_builtin; refine wpList_append_own_at _ rfl (.tmp 9) (.tmp 12) 179 rfl B 217 i0 (.agg #[Value.nilFunc]) 1 8 Tryz.underlying179 HI.out HZ0.out HZ1.out HZ2.out rfl (by decide) v M.length xs rfl (HR.out.alloc _) ⟨w.heap.size, 0, none⟩ 1 1 [Value.nilFunc] rfl rfl (fun j u hu => by have h := k1.out.range j u hu; rw [Nat.zero_add] at h; rw [Addr.add_mid, Nat.zero_add]; exact h) (by simp [Value.oneCell']) (by simp only [maxLen]; omega) (by omega) (by have := HA.out.base; have := HA.out.lt; rw [World.size_alloc]; omega) ?_; intro v3 w3 ho3 hg3 _ hor3; have O3 := Lib.hid ho3; have G3 := Lib.hid hg3; have OR3 := Lib.hid hor3; have K3 : Hid (Blk w3 ab 181 [v, .int .i64 n0]) := (hg3.block ab (by have := HA.out.lt; rw [World.size_alloc]; omega) HA.out.ne).trans (HB.out.alloc _); clear ho3 hg3 hor3)
  | ((with_reducible refine wpList_store_cell (o := ⟨_, .store 179 (.tmp 15) (.tmp 13), _, _, _, _⟩) rfl 179 _ _ rfl rfl ab 0 v3 ?_ ?_ (own_one' O3.out) 181 [v, .int .i64 n0] K3.out (by simp) size69 ?_); (· rfl); (· rfl); intro w4 k4 b4 s4; obtain ⟨A3, c3, hv3⟩ := own_form O3.out; subst hv3; have c4 : w4.cell? ⟨ab, 0, none⟩ = _ := k4.out.cell 0))
 go_ret
 have SZ : w.heap.size + 1 ≤ w3.heap.size := by have := G3.out.size; rw [World.size_alloc] at this; exact this
 have LT := HA.out.lt
 have RL := HA.out.rowLt
 have hrow4 : ∀ k, (Value.slice A3 (M.length + 1) c3).ownBlock = some k → k ≠ ab := fun k hk e => by
  subst e
  rcases OR3.out with h | h
  ·exact HA.out.ne (by rw [← h, hk])
  ·rw [h] at hk
   injection hk with hk
   rw [World.size_alloc] at hk
   omega
 have hT : ∀ b, TA w B ab v b → TA w4 B ab (.slice A3 (M.length + 1) c3) b := fun b hb => ⟨hb.1, by have := hb.2.1; have := s4.out; omega, hb.2.2.1, fun e => by
  rcases OR3.out with h | h
  ·exact hb.2.2.2 (by rw [← h]; exact e)
  ·rw [h] at e
   injection e with e
   have := hb.2.1
   rw [World.size_alloc] at e
   omega⟩
 have hk : ∀ b j, TA w B ab v b → w4.cell? ⟨b, j, none⟩ = w.cell? ⟨b, j, none⟩ := fun b j hb => by
  have e1 := b1.out.cell (p := ⟨b, j, none⟩) hb.2.1
  have e2 : w3.cell? ⟨b, j, none⟩ = _ := World.cell?_of_block (G3.out.block b (by have := hb.2.1; rw [World.size_alloc]; omega) hb.2.2.2)
  have e3 := b4.out.cell (p := ⟨b, j, none⟩) (by have := hb.2.1; show b < _; omega) hb.2.2.1
  exact e3.trans (e2.trans e1)
 refine ⟨by simp, _, ⟨⟨n0, k4.out⟩, HA.out.base, ⟨xs ++ [Value.nilFunc], ?_, NdsL.snoc (HN.out.keep (fun _ h => .inl h) (fun b j hb => hk b j (HA.out.sub b hb))) (HV.out.keep (fun _ h => .inr h) (fun b j hb => hk b j (HT1.out b hb)))⟩, fun n hn => hT n (by rcases hn with hn | hn; exact HA.out.sub n hn; exact HT1.out n hn)⟩, ?_, ?_⟩
 ·rw [List.length_append, List.length_singleton]
  have h := O3.out
  refine ⟨h.1, ?_⟩
  rcases h.2 with h0 | ⟨g, cap, cur, e, h1, h2, h3⟩
  ·exact .inl h0
  ·exact .inr ⟨g, cap, cur, e, h1, (b4.out.block g (Array.getElem?_eq_some_iff.1 h2).1 (hrow4 g (by rw [e]; rfl))).trans h2, h3⟩
 ·have h1 : But (AutS ab v) w w3 := ((But.of_below b1.out).grown G3.out (fun k e _ => .inr e.symm))
  exact h1.row b4.out (fun _ => .inl rfl)
 ·rcases OR3.out with h | h
  ·exact .inl h
  ·refine .inr (fun k hk => ?_)
   rw [h] at hk
   injection hk with hk
   rw [World.size_alloc] at hk
   omega
end Go.Proofs.YtdeppcddknakjaaGreatDoor.Rx
namespace Go.Proofs.YtdeppcddknakjaaGreatDoor.Rx
open Go.RowKit
theorem RowTo.wk {w w0 : World} {v v' : Value} (h : RowTo w0 v v') (hs : w.heap.size ≤ w0.heap.size) : RowTo w v v' := h.imp id (fun h k hk => Nat.le_trans hs (h k hk))
/-- A state is added, whatever it is. -/
theorem add_any_ (ab B : Nat) (v fv : Value) (T T1 : Nat → Prop) (M : List Nd) (x : Nd) (w : World) (ha : Aut w B ab v T M) (hv : NdV w T1 fv x) (hT1 : ∀ n, T1 n → TA w B ab v n) (hM : M.length ≤ 1000000000) : Calls Tryz.prog 195 #[.pointer (some ⟨ab, 0, none⟩), fv] w (AddP ab B v (fun n => T n ∨ T1 n) w M.length (M ++ [x])) := by
 cases x with
 | fin => have h := hv; cases h; exact add_func ab B v T T1 M .fin 196 #[] w ha hv hT1 hM
 | hole => have h := hv; cases h; exact add_nil ab B v T T1 M .hole w ha hv hT1 hM
 | read f nx => have h := hv; obtain ⟨b1, b2, rfl, _⟩ := h; exact add_func ab B v T T1 M _ 219 _ w ha hv hT1 hM
 | fork l => have h := hv; obtain ⟨b1, A, cap, rfl, _⟩ := h; exact add_func ab B v T T1 M _ 214 _ w ha hv hT1 hM
/-- What a new block holds may be a state's. -/
theorem fresh_ta {w w1 w2 : World} {B ab : Nat} {v : Value} {T : Nat → Prop} {M : List Nd} (ha : Aut w B ab v T M) (h : w.heap.size ≤ w1.heap.size) : ∀ k, Fresh w1 w2 k → TA w2 B ab v k := fun k hk =>
 ⟨by have := ha.base; have := ha.lt; have := hk.1; omega, hk.2, by have := ha.lt; have := hk.1; omega, fun e => by have := (ha.rowLt k e.symm).2; have := hk.1; omega⟩
/-- The states of a factor's atom. -/
def cT : Pe → List Nd → Nat → Nat × List Nd
 | .byte c _ => cL fun x => x == c
 | .cls f _ => cL f
 | .sub e _ => cE e
def wT : Pe → Nat
 | .byte _ _ => 1
 | .cls _ _ => 1
 | .sub e _ => 1 + wE e
theorem cF_cT (p : Pe) : cF p = cR p.rp (cT p) := by
 cases p with
 | byte c r => rw [cF_byte]; rfl
 | cls f r => rw [cF_cls]; rfl
 | sub e r => rw [cF_subs]; rfl
theorem wF_wT (p : Pe) : wF p = wT p + wR p.rp := by
 cases p with
 | byte c r => rw [wF]; rfl
 | cls f r => rw [wF]; rfl
 | sub e r => rw [wF]; rfl
def Expr65 (x : List (List Pe)) : Prop := ∀ (B ab : Nat) (v : Value) (T : Nat → Prop) (M : List Nd) (nx : Nat) (u : Value) (w : World) (TT : Nat → Prop), Aut w B ab v T M → ExV w TT u x → (∀ n, TT n → n < B) → nx ≤ 1000000000 → M.length + 50000 * (1 + wE x) ≤ 900000000 →
 Calls Tryz.prog 194 #[.pointer (some ⟨ab, 0, none⟩), u, .int .i64 (nx : Int)] w (AutP ab B v T w (cE x M nx).1 (cE x M nx).2)
def Atom86 (p : Pe) : Prop := ∀ (B ab : Nat) (v : Value) (T : Nat → Prop) (M : List Nd) (nx : Nat) (C : List Value) (w : World) (TT : Nat → Prop), Aut w B ab v T M → PeV w TT C p → (∀ n, TT n → n < B) → nx ≤ 1000000000 → M.length + 50000 * wT p ≤ 900000000 →
 Calls Tryz.prog 217 #[.pointer (some ⟨ab, 0, none⟩), .agg C.toArray, .int .i64 (nx : Int)] w (AutP ab B v T w (cT p M nx).1 (cT p M nx).2)
def Fac81 (p : Pe) : Prop := ∀ (B ab : Nat) (v : Value) (T : Nat → Prop) (M : List Nd) (nx : Nat) (C : List Value) (w : World) (TT : Nat → Prop), Aut w B ab v T M → PeV w TT C p → (∀ n, TT n → n < B) → nx ≤ 1000000000 → M.length + 50000 * wF p ≤ 900000000 →
 Calls Tryz.prog 213 #[.pointer (some ⟨ab, 0, none⟩), .agg C.toArray, .int .i64 (nx : Int)] w (AutP ab B v T w (cF p M nx).1 (cF p M nx).2)
theorem AutP.of {ab B : Nat} {v : Value} {T : Nat → Prop} {w w0 w' : World} {i : Nat} {M' : List Nd} {e : Ending} (h : AutP ab B v T w0 i M' e w') (hb : Below w.heap.size w w0) : AutP ab B v T w i M' e w' := by
 obtain ⟨he, v', T', h1, h2, h3, h4⟩ := h
 refine ⟨he, v', T', h1, (But.of_below (S := AutS ab v) hb).trans h2 (fun _ _ h => h), ?_, fun n hn => (h4 n hn).imp id (fun h => Nat.le_trans hb.size h)⟩
 rcases h3 with h | h
 ·exact .inl h
 ·exact .inr (fun k hk => Nat.le_trans hb.size (h k hk))
set_option maxHeartbeats 4000000 in
set_option maxRecDepth 100000 in
theorem atom_leaf (p : Pe) (f : UInt8 → Bool) (hp : ∀ w TT C, PeV w TT C p → ∃ l r q, C = facL f (.slice none 0 0) l r q) (hc : cT p = cL f) (hw : wT p = 1) : Atom86 p := by
 intro B ab v T M nx C w TT ha hpe hTT hnx hM
 rw [hc]
 rw [hw] at hM
 have HCL := Lib.hid hpe.len
 have HQ : Hid (C[256]? = some (.slice none 0 0)) := by obtain ⟨l, r, q, rfl⟩ := hp _ _ _ hpe; exact (facL_at _ _ _ _ _).1
 obtain ⟨D, hD⟩ : ∃ D, D = clsC f := ⟨_, rfl⟩
 have HD : Hid (∃ tl, C = D ++ tl) := by obtain ⟨l, r, q, rfl⟩ := hp _ _ _ hpe; exact ⟨_, by rw [hD]; rfl⟩
 have HDL : Hid (D.length = 256) := by rw [hD]; exact clsC_len _
 have HA := Lib.hid ha
 have k1 : Hid (Blk (w.alloc (.cells C.toArray 164)) w.heap.size 164 C) := Blk.new w 164 C
 have b1 : Hid (Below w.heap.size w (w.alloc (.cells C.toArray 164))) := (Below.refl _ _).alloc (Nat.le_refl _) _
 have c1 : (w.alloc (.cells C.toArray 164)).cell? ⟨w.heap.size, 256, none⟩ = some (.slice none 0 0) := (k1.out.cell 256).trans HQ.out
 have heq := fun (wx : World) (A : Option Addr) (n c : Nat) => run_neq_slice_nil_any (P := Tryz.prog) wx 95 _ A n c 0 0 Tryz.underlying95
 have RG : Hid ((w.alloc (.cells C.toArray 164)).rangeAt w.heap.size 0 D) := by obtain ⟨tl, htl⟩ := HD.out; exact k1.out.part htl
 have HDD := Lib.hid hD
 clear hD ha hpe hTT hp hc hw HD
 go_enter Tryz.func217, Tryz.ntmps217
 go_wp2_with (first
  | ((with_reducible refine wpList_load_abs (o := ⟨_, .load 162 (.tmp 16), _, _, _, _⟩) rfl 162 _ rfl w.heap.size 0 ?_ D RG.out _ Tryz.underlying162 rfl 256 size45 HDL.out ?_); (· rfl))
  | (go_at_call 218; (with_reducible refine (read_any f D HDD.out nx _).mono ?_); rintro e w2 ⟨fv, rfl, n2, b2⟩)
  | (go_at_call 195; (with_reducible refine (add_any_ ab B v fv T (Fresh (w.alloc (.cells C.toArray 164)) w2) M (.read f nx) _ ((HA.out.on (S := fun _ => False) (But.of_below b1.out) (fun _ h => h.elim)).on (S := fun _ => False) (But.of_below b2.out) (fun _ h => h.elim)) n2.out (fresh_ta HA.out (by simp)) (by omega)).mono ?_); rintro e w3 ⟨rfl, v3, a3, b3, r3⟩))
 go_ret
 exact ⟨rfl, v3, _, a3, (But.of_below (S := AutS ab v) (b1.out.trans (b2.out.mono b1.out.size))).trans b3.out (fun _ _ h => h), r3.out.wk (Nat.le_trans b1.out.size b2.out.size), fun n hn => hn.imp id (fun h => by have := h.1; rw [World.size_alloc] at this; omega)⟩
theorem atom_byte_ (c : UInt8) (r : Rp) : Atom86 (.byte c r) := atom_leaf _ (fun x => x == c) (fun w TT C h => by rw [PeV] at h; exact ⟨_, _, _, h⟩) rfl rfl
theorem atom_cls_ (f : UInt8 → Bool) (r : Rp) : Atom86 (.cls f r) := atom_leaf _ f (fun w TT C h => by rw [PeV] at h; exact ⟨_, _, _, h⟩) rfl rfl
set_option maxHeartbeats 4000000 in
set_option maxRecDepth 100000 in
theorem atom_sub_ (x : List (List Pe)) (r : Rp) (H : Expr65 x) : Atom86 (.sub x r) := by
 intro B ab v T M nx C w TT ha hpe hTT hnx hM
 show Calls _ _ _ _ (AutP ab B v T w (cE x M nx).1 (cE x M nx).2)
 have hM : M.length + 50000 * (1 + wE x) ≤ 900000000 := hM
 have HQ := Lib.hid hpe
 rw [PeV] at hpe
 obtain ⟨hx0, b, cap, hC, hTb, hal⟩ := hpe
 have HCL := Lib.hid HQ.out.len
 have c0 : Hid (C[256]? = some (.slice (some ⟨b, 0, none⟩) x.length cap)) := by rw [hC]; exact (facL_at _ _ _ _ _).1
 have k1 : Hid (Blk (w.alloc (.cells C.toArray 164)) w.heap.size 164 C) := Blk.new w 164 C
 have b1 : Hid (Below w.heap.size w (w.alloc (.cells C.toArray 164))) := (Below.refl _ _).alloc (Nat.le_refl _) _
 have c1 : (w.alloc (.cells C.toArray 164)).cell? ⟨w.heap.size, 256, none⟩ = some (.slice (some ⟨b, 0, none⟩) x.length cap) := (k1.out.cell 256).trans c0.out
 have heq := fun (wx : World) (A : Option Addr) (n c : Nat) => run_neq_slice_nil_any (P := Tryz.prog) wx 95 _ A n c 0 0 Tryz.underlying95
 have CE : Hid (Calls Tryz.prog 194 #[.pointer (some ⟨ab, 0, none⟩), .slice (some ⟨b, 0, none⟩) x.length cap, .int .i64 (nx : Int)] (w.alloc (.cells C.toArray 164)) (AutP ab B v T (w.alloc (.cells C.toArray 164)) (cE x M nx).1 (cE x M nx).2)) :=
  H B ab v T M nx _ _ TT (ha.on (S := fun _ => False) (But.of_below b1.out) (fun _ h => h.elim)) ⟨hx0, b, cap, rfl, hTb, AltsV.keep (fun _ h => h) (fun g j hg => b1.out.cell (by have := hTT g hg; have := ha.base; have := ha.lt; show g < _; omega)) (fun j => b1.out.cell (by have := hTT b hTb; have := ha.base; have := ha.lt; show b < _; omega)) hal⟩ hTT hnx hM
 clear hC hTb hal ha hTT hx0 HQ
 go_enter Tryz.func217, Tryz.ntmps217
 go_wp2_with (first
  | (go_at_call 194; (with_reducible refine CE.out.mono ?_); rintro e w3 ⟨rfl, v3, T3, a3, b3, r3, t3⟩))
 go_ret
 exact AutP.of ⟨rfl, v3, T3, a3, b3, r3, t3⟩ b1.out
end Go.Proofs.YtdeppcddknakjaaGreatDoor.Rx
namespace Go.Proofs.YtdeppcddknakjaaGreatDoor.Rx
open Go.RowKit
theorem PeV.rp {w : World} {T : Nat → Prop} {C : List Value} {p : Pe} (h : PeV w T C p) : C[259]? = some (.int .u8 (p.rp.b.toNat : Int)) := by
 cases p with
 | byte c r => rw [PeV] at h; subst h; exact (facL_at _ _ _ _ _).2.2.2
 | cls f r => rw [PeV] at h; subst h; exact (facL_at _ _ _ _ _).2.2.2
 | sub e r => rw [PeV] at h; obtain ⟨_, b, cap, h1, _⟩ := h; subst h1; exact (facL_at _ _ _ _ _).2.2.2
/-- The states of an automaton that has some. -/
theorem Aut.form {w : World} {B ab : Nat} {v : Value} {T : Nat → Prop} {M : List Nd} (h : Aut w B ab v T M) (h0 : 0 < M.length) : ∃ g cap cur, v = .slice (some ⟨g, 0, none⟩) M.length cap ∧ B ≤ g ∧ g ≠ ab ∧ w.heap[g]? = some (.cells cur 217 (0, 0)) ∧ M.length ≤ cur.size := by
 obtain ⟨xs, hr, _⟩ := h.row
 have hne := h.ne
 rcases hr.2 with ⟨_, h1⟩ | ⟨g, cap, cur, rfl, h1, h2, h3, h4, h5, h6⟩
 ·omega
 ·exact ⟨g, cap, cur, rfl, h1, fun e => hne (by rw [e]; rfl), h2, by rw [h5]; omega⟩
/-- A state is written anew. -/
theorem Aut.write {w : World} {B ab g cap : Nat} {T T1 : Nat → Prop} {M : List Nd} {fv : Value} {x : Nd} {k : Nat} (h : Aut w B ab (.slice (some ⟨g, 0, none⟩) M.length cap) T M) (hk : k < M.length) (hv : NdV w T1 fv x) (hT1 : ∀ n, T1 n → TA w B ab (.slice (some ⟨g, 0, none⟩) M.length cap) n) :
  Aut (w.setCell ⟨g, k, none⟩ fv) B ab (.slice (some ⟨g, 0, none⟩) (M.set k x).length cap) (fun n => T n ∨ T1 n) (M.set k x) := by
 rw [List.length_set]
 obtain ⟨n, hb⟩ := h.blk
 obtain ⟨xs, hr, hn⟩ := h.row
 have hne : g ≠ ab := fun e => h.ne (by rw [e]; rfl)
 have hkeep : ∀ b j, TA w B ab (.slice (some ⟨g, 0, none⟩) M.length cap) b → (w.setCell ⟨g, k, none⟩ fv).cell? ⟨b, j, none⟩ = w.cell? ⟨b, j, none⟩ := fun b j hb => World.cell?_setCell_other _ _ _ _ (fun e => by
  injection e with e _
  exact hb.2.2.2 (by rw [← e]; rfl))
 have hTT : ∀ b, TA w B ab (.slice (some ⟨g, 0, none⟩) M.length cap) b → TA (w.setCell ⟨g, k, none⟩ fv) B ab (.slice (some ⟨g, 0, none⟩) M.length cap) b := fun b hb => ⟨hb.1, by rw [World.size_setCell]; exact hb.2.1, hb.2.2⟩
 refine ⟨⟨n, hb.setOther hne fv⟩, h.base, ⟨xs.set k fv, ?_, (hn.keep (fun _ h => .inl h) (fun b j hb => hkeep b j (h.sub b hb))).set (hv.keep (fun _ h => .inr h) (fun b j hb => hkeep b j (hT1 b hb)))⟩, fun n hn => hTT n (by rcases hn with hn | hn; exact h.sub n hn; exact hT1 n hn)⟩
 refine ⟨by rw [List.length_set, List.length_set]; exact hr.1, ?_⟩
 rcases hr.2 with ⟨h0, _⟩ | ⟨g', cap', cur, e, h1, h2, h3, h4, h5, h6⟩
 ·cases h0
 ·injection e with e1 _ e2
  injection e1 with e1
  injection e1 with e1 _
  subst e1 e2
  refine .inr ⟨g, cap, cur.setIfInBounds k fv, by rw [List.length_set], h1, ?_, by rw [List.length_set]; exact h3, h4, by simpa using h5, ?_⟩
  ·rw [setCell_eq_setRow w g k cur 217 (0, 0) fv h2]
   exact setRow_heap w g cur _ 217 _ h2
  ·rw [List.length_set, Array.toList_setIfInBounds, Nat.mul_one, List.take_set, ← h6, Nat.mul_one]
theorem pair_fork (w : World) (i j : Nat) : NdV ((w.alloc (.cells #[.int .i64 (i : Int), .int .i64 (j : Int)] 3)).alloc (.cells #[.slice (some ⟨w.heap.size, 0, none⟩) 2 2] 57)) (fun n => w.heap.size ≤ n ∧ n < w.heap.size + 2) (.func (.func 214) #[] #[.pointer (some ⟨w.heap.size + 1, 0, none⟩)]) (.fork [i, j]) := by
 have h1 := (Blk.new (w.alloc (.cells #[.int .i64 (i : Int), .int .i64 (j : Int)] 3)) 57 [.slice (some ⟨w.heap.size, 0, none⟩) 2 2]).cell 0
 rw [World.size_alloc] at h1
 have h2 := (Blk.new w 3 [.int .i64 (i : Int), .int .i64 (j : Int)]).alloc (.cells #[.slice (some ⟨w.heap.size, 0, none⟩) 2 2] 57)
 refine ⟨w.heap.size + 1, some ⟨w.heap.size, 0, none⟩, 2, rfl, ⟨by omega, by omega⟩, h1, fun _ => ⟨w.heap.size, rfl, ⟨Nat.le_refl _, by omega⟩, fun k hk => ?_⟩⟩
 have h3 := h2.cell k
 match k, hk with
 | 0, _ => exact h3
 | 1, _ => exact h3
theorem pair_ta {w w2 : World} {B ab : Nat} {v : Value} {T : Nat → Prop} {M : List Nd} (ha : Aut w B ab v T M) (h : w.heap.size + 2 ≤ w2.heap.size) : ∀ n, w.heap.size ≤ n ∧ n < w.heap.size + 2 → TA w2 B ab v n := fun n hn => fresh_ta (w1 := w) (w2 := w2) ha (Nat.le_refl _) n ⟨hn.1, by omega⟩
set_option maxHeartbeats 4000000 in
set_option maxRecDepth 100000 in
theorem factor_one (p : Pe) (hp : p.rp = .one) (H : Atom86 p) : Fac81 p := by
 intro B ab v T M nx C w TT ha hpe hTT hnx hM
 rw [cF_cT, hp]
 have hM : M.length + 50000 * wT p ≤ 900000000 := by rw [wF_wT, hp] at hM; simp only [wR] at hM; omega
 have HCL := Lib.hid hpe.len
 have k1 : Hid (Blk (w.alloc (.cells C.toArray 164)) w.heap.size 164 C) := Blk.new w 164 C
 have b1 : Hid (Below w.heap.size w (w.alloc (.cells C.toArray 164))) := (Below.refl _ _).alloc (Nat.le_refl _) _
 have c0 := hpe.rp
 rw [hp] at c0
 have c1 : (w.alloc (.cells C.toArray 164)).cell? ⟨w.heap.size, 259, none⟩ = some (.int .u8 0) := (k1.out.cell 259).trans c0
 have CH : Hid (Calls Tryz.prog 217 #[.pointer (some ⟨ab, 0, none⟩), .agg C.toArray, .int .i64 (nx : Int)] (w.alloc (.cells C.toArray 164)) (AutP ab B v T (w.alloc (.cells C.toArray 164)) (cT p M nx).1 (cT p M nx).2)) :=
  H B ab v T M nx C _ TT (ha.on (S := fun _ => False) (But.of_below b1.out) (fun _ h => h.elim)) (PeV.keep (fun _ h => h) (fun g j hg => b1.out.cell (by have := hTT g hg; have := ha.base; have := ha.lt; show g < _; omega)) hpe) hTT hnx hM
 clear c0 ha hpe hTT
 go_enter Tryz.func213, Tryz.ntmps213
 go_wp2_with (first
  | ((with_reducible refine wpList_load_abs (o := ⟨_, .load 164 (.tmp 4), _, _, _, _⟩) rfl 164 _ rfl w.heap.size 0 ?_ C k1.out.range _ Tryz.underlying164 rfl 260 size47 HCL.out.1 ?_); (· rfl))
  | (go_at_call 217; (with_reducible refine CH.out.mono ?_); rintro e w3 ⟨rfl, v3, T3, a3, b3, r3, t3⟩))
 go_ret
 exact AutP.of ⟨rfl, v3, T3, a3, b3, r3, t3⟩ b1.out
set_option maxHeartbeats 4000000 in
set_option maxRecDepth 100000 in
theorem factor_opt (p : Pe) (hp : p.rp = .opt) (H : Atom86 p) : Fac81 p := by
 intro B ab v T M nx C w TT ha hpe hTT hnx hM
 rw [cF_cT, hp]
 have hM1 : M.length + 50000 * wT p ≤ 900000000 := by rw [wF_wT, hp] at hM; simp only [wR] at hM; omega
 have HCL := Lib.hid hpe.len
 have k1 : Hid (Blk (w.alloc (.cells C.toArray 164)) w.heap.size 164 C) := Blk.new w 164 C
 have b1 : Hid (Below w.heap.size w (w.alloc (.cells C.toArray 164))) := (Below.refl _ _).alloc (Nat.le_refl _) _
 have c0 := hpe.rp
 rw [hp] at c0
 have c1 : (w.alloc (.cells C.toArray 164)).cell? ⟨w.heap.size, 259, none⟩ = some (.int .u8 63) := (k1.out.cell 259).trans c0
 have HLN : Hid ((cT p M nx).2.length ≤ 1000000000) := by
  have h := cF_len (p.with .one) M nx
  have e1 : (cF (p.with .one) M nx).2.length = (cT p M nx).2.length := by
   rw [cF_cT]
   cases p <;> rfl
  have e2 : wF (p.with .one) = wT p := by
   rw [wF_wT]
   cases p <;> rfl
  show (cT p M nx).2.length ≤ 1000000000
  omega
 have CH : Hid (Calls Tryz.prog 217 #[.pointer (some ⟨ab, 0, none⟩), .agg C.toArray, .int .i64 (nx : Int)] (w.alloc (.cells C.toArray 164)) (AutP ab B v T (w.alloc (.cells C.toArray 164)) (cT p M nx).1 (cT p M nx).2)) :=
  H B ab v T M nx C _ TT (ha.on (S := fun _ => False) (But.of_below b1.out) (fun _ h => h.elim)) (PeV.keep (fun _ h => h) (fun g j hg => b1.out.cell (by have := hTT g hg; have := ha.base; have := ha.lt; show g < _; omega)) hpe) hTT hnx hM1
 clear c0 ha hpe hTT hM hM1
 show Calls _ _ _ _ (AutP ab B v T w (cT p M nx).2.length ((cT p M nx).2 ++ [.fork [(cT p M nx).1, nx]]))
 generalize cT p M nx = q at *
 obtain ⟨i, M1⟩ := q
 go_enter Tryz.func213, Tryz.ntmps213
 go_wp2_with (first
  | ((with_reducible refine wpList_load_abs (o := ⟨_, .load 164 (.tmp 4), _, _, _, _⟩) rfl 164 _ rfl w.heap.size 0 ?_ C k1.out.range _ Tryz.underlying164 rfl 260 size47 HCL.out.1 ?_); (· rfl))
  | (go_at_call 217; (with_reducible refine CH.out.mono ?_); rintro e w3 ⟨rfl, v3, T3, a3, b3, r3, t3⟩)
  | (go_at_call 208; (with_reducible refine (fork_any _ _ _ _).mono ?_); rintro e w' ⟨rfl, rfl⟩)
  | (go_at_call 195; refine (add_any_ ab B v3 _ T3 (fun n => w3.heap.size ≤ n ∧ n < w3.heap.size + 2) M1 (.fork [i, nx]) _ (a3.out.on (S := fun _ => False) (But.of_below (((Below.refl _ _).alloc (Nat.le_refl _) _).alloc (by simp) _)) (fun _ h => h.elim)) (by have h := pair_fork w3 i nx; first | exact h | (rw [World.size_alloc]; exact h) | simpa using h) (pair_ta a3.out (by simp)) HLN.out).mono ?_; rintro e w5 ⟨rfl, v5, a5, b5, r5⟩))
 go_ret
 refine AutP.of (w0 := w.alloc (.cells C.toArray 164)) ⟨rfl, v5, _, a5, ?_, ?_, fun n hn => ?_⟩ b1.out
 ·exact (b3.out.trans (S' := AutS ab v3) ((But.of_below (((Below.refl _ _).alloc (Nat.le_refl _) _).alloc (by simp) _)).trans b5.out (fun _ _ h => h)) (fun n hn hs => by
   rcases hs with rfl | hs
   ·exact .inl rfl
   ·rcases r3.out with e | e
    ·exact .inr (by rw [← e]; exact hs)
    ·have := e n hs.symm
     omega))
 ·exact r3.out.trans (w1 := w3) (by
   rcases r5.out with e | e
   ·exact .inl e
   ·exact .inr (fun k hk => Nat.le_trans (by simp; omega) (e k hk))) b3.out.size
 ·rcases hn with hn | hn
  ·exact t3.out n hn
  ·exact .inr (Nat.le_trans b3.out.size hn.1)
end Go.Proofs.YtdeppcddknakjaaGreatDoor.Rx
namespace Go.Proofs.YtdeppcddknakjaaGreatDoor.Rx
open Go.RowKit
theorem info3 : (Tryz.prog.info? 3).map (fun i => (i.zero, i.size, i.bytes)) = some (some (.int .i64 0), 1, 8) := by kernel_rfl
theorem _root_.Go.World.ownsRow.on_but {S : Nat → Prop} {w w' : World} {base : Nat} {e : TypeId} {size : Nat} {v : Value} {n : Nat} {xs : List Value} (h : w.ownsRow base e size v n xs) (k : But S w w') (hs : ∀ g, v.ownBlock = some g → ¬ S g) : w'.ownsRow base e size v n xs := by
 refine ⟨h.1, ?_⟩
 rcases h.2 with h0 | ⟨g, cap, cur, q, h1, h2, h3⟩
 ·exact .inl h0
 ·exact .inr ⟨g, cap, cur, q, h1, (k.block g (Array.getElem?_eq_some_iff.1 h2).1 (hs g (by rw [q]; rfl))).trans h2, h3⟩
/-- Numbers as cells. -/
def numC (l : List Nat) : List Value := l.map fun (n : Nat) => Value.int .i64 (n : Int)
theorem numC_snoc (l : List Nat) (n : Nat) : numC (l ++ [n]) = numC l ++ [.int .i64 (n : Int)] := by simp [numC]
/-- What the states of an alternative are told. -/
def Alt73 (a : List Pe) : Prop := ∀ (B ab : Nat) (v : Value) (T : Nat → Prop) (M : List Nd) (nx : Nat) (A : Option Addr) (cap : Nat) (w : World) (TT : Nat → Prop), Aut w B ab v T M → FsV w TT A a → (∀ n, TT n → n < B) → nx ≤ 1000000000 → M.length + 50000 * wA a ≤ 900000000 →
 Calls Tryz.prog 207 #[.pointer (some ⟨ab, 0, none⟩), .slice A a.length cap, .int .i64 (nx : Int)] w (AutP ab B v T w (cA a M nx).1 (cA a M nx).2)
theorem wE_take (x : List (List Pe)) (k : Nat) (hk : k < x.length) : wE (x.take k) + wA x[k] ≤ wE x := by
 have h : x = x.take k ++ x[k] :: x.drop (k + 1) := by rw [← List.drop_eq_getElem_cons hk, List.take_append_drop]
 have h2 := congrArg wE h
 rw [wE_append, wE] at h2
 omega
theorem cB_take (x : List (List Pe)) (k : Nat) (hk : k < x.length) (M : List Nd) (nx : Nat) : cB (x.take (k + 1)) M nx = ((cB (x.take k) M nx).1 ++ [(cA x[k] (cB (x.take k) M nx).2 nx).1], (cA x[k] (cB (x.take k) M nx).2 nx).2) := by
 rw [List.take_add_one, List.getElem?_eq_getElem hk]
 exact cB_snoc _ _ _ _
/-- A row of numbers is none of an automaton's. -/
theorem own_ne {w : World} {B ab base n : Nat} {v u : Value} {T : Nat → Prop} {M : List Nd} {xs : List Value} (ha : Aut w B ab v T M) (h : w.ownsRow base 3 1 u n xs) : ∀ g, u.ownBlock = some g → g ≠ ab ∧ some g ≠ v.ownBlock := fun g hg => by
 rcases h.2 with ⟨rfl, _⟩ | ⟨g', cap, cur, rfl, _, h2, _⟩
 ·cases hg
 ·have e : some g' = some g := hg
  injection e with e
  subst e
  obtain ⟨n0, hb⟩ := ha.blk
  obtain ⟨ys, hr, _⟩ := ha.row
  refine ⟨fun e => ?_, fun e => ?_⟩
  ·subst e
   have hb : w.heap[g']? = _ := hb
   rw [h2] at hb
   injection hb with hb
   injection hb with _ q _
   cases q
  ·rcases hr.2 with ⟨rfl, _⟩ | ⟨g2, cap2, cur2, rfl, _, h3, _⟩
   ·cases e
   ·have e : some g' = some g2 := e
    injection e with e
    subst e
    rw [h2] at h3
    injection h3 with h3
    injection h3 with _ q _
    cases q
/-- A slice of numbers of the call's own, as a fork's. -/
theorem own_fork {w : World} {u : Value} {l : List Nat} {base : Nat} (h : w.ownsRow base 3 1 u l.length (numC l)) :
  ∃ A c, u = .slice A l.length c ∧ NdV (w.alloc (.cells #[.slice A l.length c] 57)) (fun n => n = w.heap.size ∨ some n = u.ownBlock) (.func (.func 214) #[] #[.pointer (some ⟨w.heap.size, 0, none⟩)]) (.fork l) := by
 have hbx := fun u => (Blk.new w 57 [u]).cell 0
 rcases h.2 with ⟨rfl, h0⟩ | ⟨g, cap, cur, rfl, h1, h2, h3⟩
 ·exact ⟨none, 0, by rw [h0], w.heap.size, none, 0, rfl, .inl rfl, hbx _, fun hne => absurd (List.length_eq_zero_iff.1 h0) hne⟩
 ·refine ⟨_, _, rfl, w.heap.size, _, _, rfl, .inl rfl, hbx _, fun hne => ⟨g, rfl, .inr rfl, fun j hj => ?_⟩⟩
  have hc := World.ownsRow.cells (g := g) h rfl j (.int .i64 (l[j] : Nat)) (by simp [numC, List.getElem?_eq_getElem hj])
  rw [Addr.add_mid, Nat.zero_add] at hc
  rw [World.cell?_alloc_lt _ _ _ (Array.getElem?_eq_some_iff.1 h2).1]
  exact hc
set_option maxHeartbeats 4000000 in
set_option maxRecDepth 100000 in
theorem expr_any (x : List (List Pe)) (H : ∀ a ∈ x, Alt73 a) : Expr65 x := by
 intro B ab v T M nx u w TT ha hu hTT hnx hM
 obtain ⟨⟨hx0, hxl⟩, b, cap, rfl, hTb, hal⟩ := hu
 have HH : Hid (∀ k (hk : k < x.length), Alt73 x[k]) := fun k hk => H _ (List.getElem_mem hk)
 have HTT := Lib.hid hTT
 have HAL := Lib.hid hal
 have HTB := Lib.hid hTb
 have HA := Lib.hid ha
 have HLT : Hid (B ≤ ab ∧ ab < w.heap.size) := ⟨ha.base, ha.lt⟩
 have HRL : Hid (∀ k, v.ownBlock = some k → B ≤ k) := fun k hk => (ha.rowLt k hk).1
 obtain ⟨i0, hi, hz0, hz1, hz2⟩ := info_parts info3
 have HI := Lib.hid hi
 have HZ0 := Lib.hid hz0
 have HZ1 := Lib.hid hz1
 have HZ2 := Lib.hid hz2
 have HM := Lib.hid hM
 have mono : Hid (∀ g, g < B → ¬ AutS ab v g) := fun g hg hs => by
  have := HLT.out
  rcases hs with hs | hs
  ·omega
  ·have := HRL.out g hs.symm
   omega
 clear hi hz0 hz1 hz2 ha hTT hal hTb H hx0 hM
 show Calls _ _ _ _ (AutP ab B v T w (cB x M nx).2.length ((cB x M nx).2 ++ [.fork (cB x M nx).1]))
 go_enter Tryz.func194, Tryz.ntmps194
 go_wp2_with fail
 go_loopw [7, 12] (fun vf vi wr => ∃ (k : Nat) (v' : Value) (T' : Nat → Prop), k ≤ x.length ∧ vi = .int .i64 k ∧ Hid (wr.ownsRow w.heap.size 3 1 vf k (numC (cB (x.take k) M nx).1)) ∧ Hid (Aut wr B ab v' T' (cB (x.take k) M nx).2) ∧ Hid (But (AutS ab v) w wr) ∧ Hid (RowTo w v v') ∧ Hid (∀ n, T' n → T n ∨ w.heap.size ≤ n) ∧ Hid (∀ g, vf.ownBlock = some g → ¬ T' g)) (fun _ vi _ => x.length - (intOf vi).toNat)
 case atStart => exact ⟨0, v, T, Nat.zero_le _, rfl, by (rw [List.take_zero, cB]; exact World.ownsRow_nil _ _ _ _), by (rw [List.take_zero, cB]; exact HA.out), But.refl _ _, RowTo.refl _ _, fun n hn => .inl hn, fun g hg => by cases hg⟩
 case round =>
  clear HA
  obtain ⟨k, v', T', hk, rfl, HO, HA, HB, HR, HT, HNT⟩ := hrel
  by_cases hlt : k < x.length
  ·obtain ⟨A, c2, hcell0, hfs0⟩ := HAL.out.at_ k hlt
   rw [Nat.zero_add] at hcell0
   have HCW : Hid (∀ g j, g < B → wr.cell? ⟨g, j, none⟩ = w.cell? ⟨g, j, none⟩) := fun g j hg => HB.out.cell (p := ⟨g, j, none⟩) (by have := HLT.out; show g < _; omega) (mono.out g hg)
   have hcell : wr.cell? ⟨b, k, none⟩ = some (.slice A x[k].length c2) := (HCW.out b k (HTT.out b HTB.out)).trans hcell0
   have HLN : Hid ((cB (x.take k) M nx).2.length = M.length + wE (x.take k)) := cB_len _ _ _
   have HWT := Lib.hid (wE_take x k hlt)
   have CA : Hid (Calls Tryz.prog 207 #[.pointer (some ⟨ab, 0, none⟩), .slice A x[k].length c2, .int .i64 (nx : Int)] wr (AutP ab B v' T' wr (cA x[k] (cB (x.take k) M nx).2 nx).1 (cA x[k] (cB (x.take k) M nx).2 nx).2)) :=
    HH.out k hlt B ab v' T' _ nx A c2 wr TT HA.out (FsV.keep hfs0 (fun _ h => h) (fun g j hg => HCW.out g j (HTT.out g hg))) HTT.out hnx (by have := HLN.out; have := HWT.out; have := HM.out; omega)
   have HE := Lib.hid (cB_take x k hlt M nx)
   clear hcell0 hfs0 HCW
   generalize x[k] = a at *
   generalize cB (x.take k) M nx = q at *
   generalize cA a q.2 nx = r at *
   obtain ⟨fs, M1⟩ := q
   obtain ⟨i1, M2⟩ := r
   go_wp2_with (first
    | (go_at_call 207; (with_reducible refine CA.out.mono ?_); rintro e w2 ⟨rfl, v2, T2, a2, b2, r2, t2⟩; have O2 : Hid (w2.ownsRow w.heap.size 3 1 u7 k (numC fs)) := (HO.out.on_but b2.out (fun g hg hs => by (have h := own_ne HA.out HO.out g hg; rcases hs with hs | hs; exact h.1 hs; exact h.2 hs))))
    | (at_builtin; refine wpList_append_own_at _ rfl (.tmp 16) (.tmp 21) 57 rfl w.heap.size 3 i0 (.int .i64 0) 1 8 Tryz.underlying57 HI.out HZ0.out HZ1.out HZ2.out rfl (by decide) u7 k (numC fs) rfl (O2.out.alloc _) ⟨w2.heap.size, 0, none⟩ 1 1 [.int .i64 (i1 : Int)] rfl rfl (fun j u hu => by have h := (Blk.new w2 3 [.int .i64 (i1 : Int)]).range j u hu; rw [Nat.zero_add] at h; rw [Addr.add_mid, Nat.zero_add]; exact h) (by simp [Value.oneCell']) (by simp only [maxLen]; omega) (by omega) (by have := HB.out.size; have := b2.out.size; rw [World.size_alloc]; omega) ?_; intro v4 w4 ho4 hg4 _ hor4; have O4 := Lib.hid ho4; have G4 := Lib.hid hg4; have OR4 := Lib.hid hor4; clear ho4 hg4 hor4))
   have SZ : Hid (w.heap.size ≤ wr.heap.size ∧ wr.heap.size ≤ w2.heap.size ∧ w2.heap.size + 1 ≤ w4.heap.size) := ⟨HB.out.size, b2.out.size, by have := G4.out.size; rw [World.size_alloc] at this; exact this⟩
   have NT2 : Hid (∀ g, u7.ownBlock = some g → ¬ T2 g) := fun g hg ht => by
    rcases t2.out g ht with h | h
    ·exact HNT.out g hg h
    ·have := (World.ownsRow.lt HO.out g hg).2
     omega
   have A4 : Hid (Aut w4 B ab v2 T2 M2) := by
    have h1 : Aut (w2.alloc (.cells #[.int .i64 (i1 : Int)] 3)) B ab v2 T2 M2 := a2.out.on (S := fun _ => False) (But.of_below ((Below.refl _ _).alloc (Nat.le_refl _) _)) (fun _ h => h.elim)
    exact h1.off (S := fun n => u7.ownBlock = some n) ⟨G4.out.os, G4.out.tape, G4.out.output, G4.out.size, fun n hn hs => G4.out.block n hn (fun e => hs e.symm)⟩ (fun n hs hn => by
     have h := own_ne a2.out O2.out n hs
     exact ⟨h.1, h.2, NT2.out n hs⟩)
   have B4 : Hid (But (AutS ab v) w w4) := ((HB.out.aut b2.out HR.out).alloc _).grown G4.out (fun n e hn => by have := (World.ownsRow.lt HO.out n e).1; omega)
   have R4 : Hid (RowTo w v v2) := HR.out.trans r2.out HB.out.size
   have T4 : Hid (∀ n, T2 n → T n ∨ w.heap.size ≤ n) := fun n hn => by
    rcases t2.out n hn with h | h
    ·exact HT.out n h
    ·exact .inr (Nat.le_trans SZ.out.1 h)
   have NT4 : Hid (∀ g, v4.ownBlock = some g → ¬ T2 g) := fun g hg ht => by
    rcases OR4.out with h | h
    ·exact NT2.out g (by rw [← h]; exact hg) ht
    ·rw [h] at hg
     injection hg with hg
     rw [World.size_alloc] at hg
     have := (a2.out.sub g ht).2.1
     omega
   have O4' : Hid (w4.ownsRow w.heap.size 3 1 v4 (k + 1) (numC (cB (x.take (k + 1)) M nx).1)) := by
    have h := HE.out
    show World.ownsRow _ _ _ _ _ _ _
    rw [h, numC_snoc]
    exact O4.out
   have A4' : Hid (Aut w4 B ab v2 T2 (cB (x.take (k + 1)) M nx).2) := by
    have h := HE.out
    show Aut _ _ _ _ _ _
    rw [h]
    exact A4.out
   clear A4 O4 HE NT2 SZ G4 OR4 O2 a2 b2 r2 t2
   go_roundw
   case rel => exact ⟨k + 1, v2, T2, by omega, by go_num, O4', A4', B4, R4, T4, NT4⟩
   case measure => simp [intOf]; omega
  ·obtain rfl : k = x.length := by omega
   have HLN : Hid ((cB x M nx).2.length = M.length + wE x) := cB_len _ _ _
   have HCN : Hid ((cB x M nx).1.length = x.length) := cB_count _ _ _
   have HO' := HO.out
   have HA' := HA.out
   rw [List.take_of_length_le (Nat.le_refl _)] at HO' HA'
   generalize cB x M nx = q at *
   obtain ⟨fs, M1⟩ := q
   have OF : Hid (wr.ownsRow w.heap.size 3 1 u7 fs.length (numC fs)) := by
    have h : fs.length = x.length := HCN.out
    rw [h]
    exact HO'
   have AF := Lib.hid HA'
   obtain ⟨A, c, hu7, hnd⟩ := own_fork OF.out
   have ND := Lib.hid hnd
   have OB : Hid (∀ g, u7.ownBlock = some g → w.heap.size ≤ g ∧ g < wr.heap.size ∧ g ≠ ab ∧ some g ≠ v'.ownBlock) := fun g hg => ⟨(World.ownsRow.lt OF.out g hg).1, (World.ownsRow.lt OF.out g hg).2, (own_ne AF.out OF.out g hg).1, (own_ne AF.out OF.out g hg).2⟩
   have TAA : Hid (∀ n, (n = wr.heap.size ∨ some n = u7.ownBlock) → TA (wr.alloc (.cells #[.slice A fs.length c] 57)) B ab v' n) := fun n hn => by
    have hl := HLT.out
    have hs := HB.out.size
    rcases hn with rfl | hn
    ·exact fresh_ta (w1 := wr) (w2 := wr.alloc (.cells #[.slice A fs.length c] 57)) AF.out (Nat.le_refl _) _ ⟨Nat.le_refl _, by simp⟩
    ·have h := OB.out n hn.symm
     exact ⟨by omega, by rw [World.size_alloc]; omega, h.2.2.1, h.2.2.2⟩
   have AQ : Hid (Aut (wr.alloc (.cells #[.slice A fs.length c] 57)) B ab v' T' M1) := AF.out.on (S := fun _ => False) (But.of_below ((Below.refl _ _).alloc (Nat.le_refl _) _)) (fun _ h => h.elim)
   have CAD : Hid (Calls Tryz.prog 195 #[.pointer (some ⟨ab, 0, none⟩), .func (.func 214) #[] #[.pointer (some ⟨wr.heap.size, 0, none⟩)]] (wr.alloc (.cells #[.slice A fs.length c] 57)) (AddP ab B v' (fun n => T' n ∨ (n = wr.heap.size ∨ some n = u7.ownBlock)) (wr.alloc (.cells #[.slice A fs.length c] 57)) M1.length (M1 ++ [.fork fs]))) :=
    add_any_ ab B v' _ T' _ M1 (.fork fs) _ AQ.out ND.out TAA.out (by have h : M1.length = M.length + wE x := HLN.out; have := HM.out; omega)
   have TF : Hid (∀ n, (T' n ∨ (n = wr.heap.size ∨ some n = u7.ownBlock)) → T n ∨ w.heap.size ≤ n) := fun n hn => by
    have hs := HB.out.size
    rcases hn with hn | rfl | hn
    ·exact HT.out n hn
    ·exact .inr hs
    ·exact .inr (OB.out n hn.symm).1
   clear HO' HA' HO HA hnd HNT HT TAA AQ ND OB OF
   subst hu7
   go_wp2_with (first
    | (go_at_call 208; (with_reducible refine (fork_any _ _ _ _).mono ?_); rintro e w' ⟨rfl, rfl⟩)
    | (go_at_call 195; (with_reducible refine CAD.out.mono ?_); rintro e w5 ⟨rfl, v5, a5, b5, r5⟩))
   go_ret
   refine ⟨rfl, v5, _, a5, ?_, ?_, TF.out⟩
   ·exact (HB.out.alloc _).aut b5.out HR.out
   ·exact HR.out.trans (r5.out.wk (by rw [World.size_alloc]; omega)) HB.out.size
end Go.Proofs.YtdeppcddknakjaaGreatDoor.Rx
namespace Go.Proofs.YtdeppcddknakjaaGreatDoor.Rx
open Go.RowKit
open Go.Shelf
attribute [local go_sem] Oper.semAt_some
section
variable {F : Fence} {n : Nat} {P : Program}
theorem wpListIn_of_value {ops : Array Oper} {rest : List Oper} {o : Oper} {a : Act} {w : World} {Q : Exit → Act → World → Prop} (hgd : o.guard = none) (hab : o.about P w a.eval = none) (hdef : ∀ c, o.op ≠ .defer c)
  (v : Value) (w' : World) (hr : (execOp a.eval o).run P w = .ok (.value v) w') (h : wpListIn F n P ops Q rest (a.put o.dst v) w') : wpListIn F n P ops Q (o :: rest) a w := by
 refine wpListIn_plain hgd fun K hK => ?_
 unfold Oper.wpIn
 refine ⟨fun f hf => (by rw [hab] at hf; cases hf), ?_⟩
 rw [Oper.semAt_plain F _ _ hdef, hr]
 exact hK _ _ h
theorem wpListIn_of_skip {ops : Array Oper} {rest : List Oper} {o : Oper} {a : Act} {w : World} {Q : Exit → Act → World → Prop} (hgd : o.guard = none) (hab : o.about P w a.eval = none) (hdef : ∀ c, o.op ≠ .defer c)
  (w' : World) (hr : (execOp a.eval o).run P w = .ok .skip w') (h : wpListIn F n P ops Q rest (a.put o.dst undef) w') : wpListIn F n P ops Q (o :: rest) a w := by
 refine wpListIn_plain hgd fun K hK => ?_
 unfold Oper.wpIn
 refine ⟨fun f hf => (by rw [hab] at hf; cases hf), ?_⟩
 rw [Oper.semAt_plain F _ _ hdef, hr]
 exact hK _ _ h
theorem wpListIn_alloc_abs {ops : Array Oper} {rest : List Oper} {o : Oper} {a : Act} {w : World} {Q : Exit → Act → World → Prop} (hgd : o.guard = none) (t : TypeId) (ho : o.op = .alloc t) (Z : List Value)
  (hz : (P.info? t).map (·.zero) = some (some (.agg Z.toArray)))
  (h : ∀ g w', Hid (w.heap.size = g) → Hid (Blk w' g t Z) → Hid (KeepsOthers w w') → Hid (Below w.heap.size w w') → Hid (w'.heap.size = g + 1) → wpListIn F n P ops Q rest (a.put o.dst (.pointer (some ⟨g, 0, none⟩))) w') : wpListIn F n P ops Q (o :: rest) a w := by
 refine wpListIn_of_value hgd (by simp [Oper.about, ho]) (by rw [ho]; intro c hc; cases hc) (.pointer (some ⟨w.heap.size, 0, none⟩)) (w.alloc (.cells Z.toArray t)) ?_ (h w.heap.size _ rfl (Blk.new w t Z) (KeepsOthers.alloc _ _) ((Below.refl _ _).alloc (Nat.le_refl _) _) (by show (World.alloc _ _).heap.size = _; rw [World.size_alloc]))
 unfold execOp
 cases hq : P.info? t with
 | none => rw [hq] at hz; cases hz
 | some i =>
  have hi : i.zero = some (.agg Z.toArray) := by rw [hq] at hz; simpa using hz
  simp [ho, Instr.alloc, zeroValue, typeInfo, hq, hi, newVar, newRow, run_newObj_alloc, Value.cells]
theorem keepsOthers_setRow {w : World} {g : Nat} {t : TypeId} {old : List Value} (hg : Blk w g t old) (l : List Value) : KeepsOthers w (w.setRow g l.toArray) := by
 refine ⟨by rw [setRow_size]; exact Nat.le_refl _, fun k o hk ho => ?_⟩
 by_cases e : k = g
 ·subst e
  have h : w.heap[k]? = _ := hg
  rw [h] at hk
  injection hk with hk
  subst hk
  cases ho
 ·exact (setRow_other _ _ _ _ e).trans hk
theorem wpListIn_store_abs {ops : Array Oper} {rest : List Oper} {o : Oper} {a : Act} {w : World} {Q : Exit → Act → World → Prop} (hgd : o.guard = none) (ty : TypeId) (x y : Operand) (ho : o.op = .store ty x y) (hd : o.dst = none)
  (g : Nat) (l : List Value) (hx : a.eval x = .pointer (some ⟨g, 0, none⟩)) (hy : a.eval y = .agg l.toArray)
  (t : TypeId) (old : List Value) (hg : Blk w g t old) (m : Nat) (hi : (P.info? ty).map (·.size) = some m) (hn : l.length = m)
  (hold : old.length = m) (h1 : ∀ v ∈ l, v.oneCell' = true)
  (h : ∀ w', Hid (Blk w' g t l) → Hid (KeepsOthers w w') → Hid (But (· = g) w w') → Hid (w'.heap.size = w.heap.size) → wpListIn F n P ops Q rest a w') : wpListIn F n P ops Q (o :: rest) a w := by
 have hrun : (execOp a.eval o).run P w = .ok .skip (w.setRow g l.toArray) := by
  unfold execOp
  simp only [ho, hx, hy, Instr.storeAt, Instr.sureAddr, Sem.run_bind, Sem.run_pure, Result.andThen_ok, run_storeVar_row w g t ty old.toArray l.toArray hg (by simpa [hn] using hi) (by simp; omega) (all_oneCell_toArray h1)]
 refine wpListIn_of_skip hgd (by simp [Oper.about, ho]) (by rw [ho]; intro c hc; cases hc) _ hrun ?_
 rw [hd]
 exact h _ (hg.setRow l) (keepsOthers_setRow hg l) (But.setRow (S := (· = g)) (But.refl _ w) (fun _ => rfl) _) (setRow_size _ _ _)
theorem wpListIn_load_abs {ops : Array Oper} {rest : List Oper} {o : Oper} {a : Act} {w : World} {Q : Exit → Act → World → Prop} (hgd : o.guard = none) (ty : TypeId) (x : Operand) (ho : o.op = .load ty x)
  (b off : Nat) (hx : a.eval x = .pointer (some ⟨b, off, none⟩)) (cs : List Value) (hc : w.rangeAt b off cs) (d : TypeDesc)
  (hu : P.underlying ty = some d) (hd : d.isRow = true) (m : Nat) (hi : (P.info? ty).map (·.size) = some m) (hn : cs.length = m)
  (h : wpListIn F n P ops Q rest (a.put o.dst (.agg cs.toArray)) w) : wpListIn F n P ops Q (o :: rest) a w := by
 refine wpListIn_of_value hgd (by simp [Oper.about, ho]) (by rw [ho]; intro c hc; cases hc) (.agg cs.toArray) w ?_ h
 unfold execOp
 simp only [ho, hx, Instr.loadAt, Instr.sureAddr, Sem.run_bind, Sem.run_pure, Result.andThen_ok, run_loadVar_mid w b off ty cs d hc hu hd (hi.trans (by rw [hn]))]
end
/-- The places from the last down to k. -/
def bk (n k : Nat) : List (Fin n) := ((List.finRange n).drop k).reverse
theorem bk_all (n : Nat) : bk n n = [] := by simp [bk]
theorem bk_zero (n : Nat) : bk n 0 = (List.finRange n).reverse := by simp [bk]
theorem bk_step {n k : Nat} (h : k < n) : bk n k = bk n (k + 1) ++ [⟨k, h⟩] := by
 unfold bk
 rw [List.drop_eq_getElem_cons (by simpa using h), List.reverse_cons]
 congr 2
 simp
theorem bk_len {n k : Nat} : (bk n k).length = n - k := by simp [bk]
theorem backward_any (A : Option Addr) (n c : Nat) (w : World) : Calls Tryz.prog 212 #[.slice A n c] w fun e w' => e = .returned (.func (.func 216) #[] #[.pointer (some ⟨w.heap.size, 0, none⟩)]) ∧ w.alloc (.cells #[.slice A n c] 161) = w' := by
 go_enter Tryz.func212, Tryz.ntmps212
 go_wp2_with fail
 go_ret
 exact ⟨rfl, rfl⟩
abbrev encB {n : Nat} (Cs : Nat → List Value) (j : Fin n) : Array Value := #[.int .i64 (j.1 : Int), .agg (Cs j.1).toArray]
/-- What a round keeps: what lies below B, and the iterator's box. -/
structure KpB (B bx : Nat) (W W' : World) : Prop where
 low : Below B W W'
 box : W'.heap[bx]? = W.heap[bx]?
theorem KpB.refl (B bx : Nat) (W : World) : KpB B bx W W := ⟨Below.refl _ _, rfl⟩
theorem KpB.trans {B bx : Nat} {X Y Z : World} (h : KpB B bx X Y) (k : KpB B bx Y Z) : KpB B bx X Z := ⟨h.low.trans k.low, k.box.trans h.box⟩
set_option maxHeartbeats 4000000 in
set_option maxRecDepth 100000 in
theorem backward1_in (n : Nat) (hn : 1 ≤ n) (lc B bx g cap len : Nat) (hlen : len ≤ 1000000) (Cs : Nat → List Value) (hCs : ∀ j, j < len → (Cs j).length = 260) (hgB : 0 < len → g < B)
  (J Jx : List (Fin len) → World → Prop) (W : World)
  (hY : ∀ pre x W, J pre W → pre.length < len → YieldAt Fence.wide (n - 1) Tryz.prog lc (encB Cs x) W fun e W' =>
   (e = .returned (.bool true) ∧ J (pre ++ [x]) W' ∧ KpB B bx W W') ∨ (e = .returned (.bool false) ∧ Jx (pre ++ [x]) W'))
  (hbx : bx < W.heap.size) (A : Option Addr) (hA : 0 < len → A = some ⟨g, 0, none⟩) (h1 : W.cell? ⟨bx, 0, none⟩ = some (.slice A len cap)) (hR : ∀ j, j < len → W.rangeAt g (j * 260) (Cs j)) (h0 : J [] W) :
  CallsIn Fence.wide n Tryz.prog 216 #[.func (.yield lc) #[] #[], .pointer (some ⟨bx, 0, none⟩)] W fun e W' => (∃ v, e = .returned v) ∧
   ((∃ ys, ys = bk len 0 ∧ J ys W') ∨ (∃ pre, True ∧ Jx pre W')) := by
 have HY := Lib.hid hY
 have HCS := Lib.hid hCs
 have HR := Lib.hid hR
 have HA := Lib.hid hA
 have H0 := Lib.hid h0
 have HBX := Lib.hid h1
 clear hY hCs hR hA h0
 refine callsIn_of_wp Tryz.func216 rfl trivial ?_ rfl
 simp only [Tryz.ntmps216, List.size_toArray, List.length_cons, List.length_nil, Nat.reduceAdd, Nat.reduceSub, Array.replicate_succ, Array.replicate_zero, List.push_toArray, List.append_toArray, List.nil_append, List.cons_append]
 gi_wp2
 gi_loopw [3] (fun vi wr => ∃ k : Nat, k ≤ len ∧ vi = .int .i64 ((k : Int) - 1) ∧ Hid (J (bk len k) wr) ∧ Hid (KpB B bx W wr)) (fun vi _ => (intOf vi + 1).toNat)
 case atStart => exact ⟨len, Nat.le_refl _, by go_num, by (show J _ _; rw [bk_all]; exact H0.out), KpB.refl _ _ _⟩
 case round =>
  clear H0
  obtain ⟨k, hk, rfl, HJ, HK⟩ := hrel
  have hb : wr.cell? ⟨bx, 0, none⟩ = some (.slice A len cap) := (World.cell?_of_block (w := W) (HK.out.box)).trans HBX.out
  cases k with
  | zero =>
   gi_wp2
   go_end0
   exact ⟨⟨_, rfl⟩, .inl ⟨_, rfl, HJ.out⟩⟩
  | succ k =>
   obtain ⟨fn, tmps, assign, body, hy, hR⟩ := HY.out _ ⟨k, hk⟩ wr HJ.out (by rw [bk_len]; omega)
   dsimp only [encB] at hy
   have HRR := Lib.hid hR
   clear hR
   obtain rfl : A = some ⟨g, 0, none⟩ := HA.out (by omega)
   have hC : wr.rangeAt g (k * 260) (Cs k) := fun j v hv => (HK.out.low.cell (p := ⟨g, k * 260 + j, none⟩) (hgB (by omega))).trans (HR.out k hk j v hv)
   have HC := Lib.hid hC
   have HCL := Lib.hid (HCS.out k hk)
   have hkk : ((k + 1 : Nat) : Int) - 1 = (k : Int) := by omega
   rw [hkk]
   clear hC hkk
   generalize Cs k = C at *
   gi_wp2_with ((with_reducible refine wpListIn_load_abs (o := ⟨_, .load 164 (.tmp 15), _, _, _, _⟩) rfl 164 _ rfl g (k * 260) ?_ C HC.out _ Tryz.underlying164 rfl 260 size47 HCL.out ?_); (· rfl))
   refine HRR.out.mono ?_
   rintro e W3 (⟨rfl, hJ3, hk3⟩ | ⟨rfl, hJx3⟩)
   ·gi_wp2
    go_roundw
    case rel => exact ⟨k, by omega, by go_num, by (show J _ _; rw [bk_step hk]; exact hJ3), HK.out.trans hk3⟩
    case measure => (simp [intOf] <;> omega)
   ·gi_wp2
    refine bodyPost_ret (results_none rfl _ _ _) rfl ?_
    exact ⟨⟨_, rfl⟩, .inr ⟨_, trivial, hJx3⟩⟩
end Go.Proofs.YtdeppcddknakjaaGreatDoor.Rx
namespace Go.Proofs.YtdeppcddknakjaaGreatDoor.Rx
open Go.RowKit
theorem cT_len (p : Pe) (m : List Nd) (nx : Nat) : (cT p m nx).2.length = m.length + wT p := by
 cases p with
 | byte c r => show (m ++ [_]).length = _; rw [List.length_append]; rfl
 | cls f r => show (m ++ [_]).length = _; rw [List.length_append]; rfl
 | sub e r => show (cE e m nx).2.length = _; rw [cE_len]; show _ = m.length + (1 + wE e); omega
set_option maxHeartbeats 4000000 in
set_option maxRecDepth 100000 in
theorem factor_star (p : Pe) (hp : p.rp = .star) (H : Atom86 p) : Fac81 p := by
 intro B ab v T M nx C w TT ha hpe hTT hnx hM
 rw [cF_cT, hp]
 have hM1 : (M ++ [Nd.hole]).length + 50000 * wT p ≤ 900000000 := by rw [wF_wT, hp] at hM; simp only [wR] at hM; rw [List.length_append, List.length_singleton]; omega
 have hML : M.length ≤ 900000000 := by omega
 have HCL := Lib.hid hpe.len
 have k1 : Hid (Blk (w.alloc (.cells C.toArray 164)) w.heap.size 164 C) := Blk.new w 164 C
 have b1 : Hid (Below w.heap.size w (w.alloc (.cells C.toArray 164))) := (Below.refl _ _).alloc (Nat.le_refl _) _
 have HC9 := Lib.hid hpe.rp
 rw [hp] at HC9
 have c1 : (w.alloc (.cells C.toArray 164)).cell? ⟨w.heap.size, 259, none⟩ = some (.int .u8 42) := (k1.out.cell 259).trans HC9.out
 have A1 : Hid (Aut (w.alloc (.cells C.toArray 164)) B ab v T M) := ha.on (S := fun _ => False) (But.of_below b1.out) (fun _ h => h.elim)
 have CN : Hid (Calls Tryz.prog 195 #[.pointer (some ⟨ab, 0, none⟩), Value.nilFunc] (w.alloc (.cells C.toArray 164)) (AddP ab B v (fun n => T n ∨ False) (w.alloc (.cells C.toArray 164)) M.length (M ++ [.hole]))) := add_any_ ab B v _ T (fun _ => False) M .hole _ A1.out rfl (fun _ h => h.elim) (by omega)
 have HPE := Lib.hid hpe
 have HTT := Lib.hid hTT
 have HLT : Hid (B ≤ ab ∧ ab < w.heap.size ∧ ∀ k, v.ownBlock = some k → k < w.heap.size) := ⟨ha.base, ha.lt, fun k hk => (ha.rowLt k hk).2⟩
 have CH : Hid (∀ v2 T2 w2, Aut w2 B ab v2 T2 (M ++ [.hole]) → PeV w2 TT C p → Calls Tryz.prog 217 #[.pointer (some ⟨ab, 0, none⟩), .agg C.toArray, .int .i64 (M.length : Int)] w2 (AutP ab B v2 T2 w2 (cT p (M ++ [.hole]) M.length).1 (cT p (M ++ [.hole]) M.length).2)) := fun v2 T2 w2 h1 h2 => H B ab v2 T2 (M ++ [.hole]) M.length C w2 TT h1 h2 hTT (by omega) hM1
 have HL2 := Lib.hid (cT_len p (M ++ [.hole]) M.length)
 clear ha hpe hTT hM hM1 H
 show Calls _ _ _ _ (AutP ab B v T w M.length ((cT p (M ++ [.hole]) M.length).2.set M.length (.fork [(cT p (M ++ [.hole]) M.length).1, nx])))
 generalize cT p (M ++ [.hole]) M.length = q at *
 obtain ⟨i, M2⟩ := q
 have HM2 : Hid (M.length < M2.length ∧ 0 < M2.length) := by
  have h := HL2.out
  simp only [List.length_append, List.length_singleton] at h
  exact ⟨by omega, by omega⟩
 go_enter Tryz.func213, Tryz.ntmps213
 go_wp2_with (first | ((with_reducible refine wpList_load_abs (o := ⟨_, .load 164 (.tmp 4), _, _, _, _⟩) rfl 164 _ rfl w.heap.size 0 ?_ C K2.out.range _ Tryz.underlying164 rfl 260 size47 HCL.out.1 ?_); (· rfl)) | (go_at_call 195; refine CN.out.mono ?_; rintro e w2 ⟨rfl, v2, a2, b2, r2⟩; have P2 : Hid (PeV w2 TT C p) := (PeV.keep (fun _ h => h) (fun g j hg => by have hgb := HTT.out g hg; have hlt := HLT.out; have e1 := b1.out.cell (p := ⟨g, j, none⟩) (by show g < w.heap.size; omega); have e2 := b2.out.cell (p := ⟨g, j, none⟩) (by show g < (w.alloc _).heap.size; rw [World.size_alloc]; omega) (by intro hs; rcases hs with hs | hs; (have hs : g = ab := hs; omega); (have hr := (A1.out.rowLt g hs.symm).1; omega)); exact e2.trans e1) HPE.out); have K2 : Hid (Blk w2 w.heap.size 164 C) := k1.out.but b2.out (by intro hs; have hlt := HLT.out; rcases hs with hs | hs; omega; (have hr := HLT.out.2.2 w.heap.size hs.symm; omega))))
 refine (CH.out v2 _ _ a2.out P2.out).mono ?_
 rintro e w3 ⟨rfl, v3, T3, a3, b3, r3, t3⟩
 have R3 : Hid (RowTo (w.alloc (.cells C.toArray 164)) v v3) := r2.out.trans r3.out b2.out.size
 have B3 : Hid (But (AutS ab v) (w.alloc (.cells C.toArray 164)) w3) := b2.out.aut b3.out r2.out
 have K3 : Hid (Blk w3 w.heap.size 164 C) := K2.out.but b3.out (by
  intro hs
  have hlt := HLT.out
  rcases hs with hs | hs
  ·omega
  ·rcases r2.out with h | h
   ·have hr := HLT.out.2.2 w.heap.size (by rw [← h]; exact hs.symm)
    omega
   ·have := h _ hs.symm
    rw [World.size_alloc] at this
    omega)
 obtain ⟨g, cap, cur, rfl, hgB, hgab, hgh, hgc⟩ := a3.out.form HM2.out.2
 have HG : Hid (B ≤ g ∧ g ≠ ab ∧ g < w3.heap.size ∧ ab < w3.heap.size ∧ w.heap.size < w3.heap.size ∧ g ≠ w.heap.size ∧ w.heap.size + 1 ≤ w3.heap.size) := ⟨hgB, hgab, (Array.getElem?_eq_some_iff.1 hgh).1, a3.out.lt, K3.out.lt, (fun e => by
  have h := K3.out
  have h' : w3.heap[w.heap.size]? = _ := h
  rw [← e, hgh] at h'
  injection h' with h'
  injection h' with _ h2 _
  cases h2), (by have := K3.out.lt; omega)⟩
 obtain ⟨n3, hb3⟩ := a3.out.blk
 have c3 : w3.cell? ⟨ab, 0, none⟩ = some (.slice (some ⟨g, 0, none⟩) M2.length cap) := hb3.cell 0
 have CG := Lib.hid hgh
 have hcg : w3.cell? ⟨g, M.length, none⟩ = some cur[M.length]! := by
  rw [cell_of_row w3 g M.length cur 217 (0, 0) hgh, getElem!_pos cur M.length (by have := HM2.out; omega)]
  exact Array.getElem?_eq_getElem _
 have hfg : w3.frozen? ⟨g, M.length, none⟩ = false := by simp [World.frozen?, hgh]
 generalize cur[M.length]! = oldv at hcg
 have hlab : ab < w3.heap.size := HG.out.2.2.2.1
 have hlg : g < w3.heap.size := HG.out.2.2.1
 have hne : g ≠ w3.heap.size := by omega
 have hne2 : g ≠ w3.heap.size + 1 := by omega
 have hMM : (M.length : Int) < (M2.length : Int) := by have := HM2.out; omega
 have CF := Lib.hid (fun wx => fork_any (some ⟨w3.heap.size, 0, none⟩) 2 2 wx)
 clear hb3 hgB hgab hgh hgc c1
 have mixed : Tryz.prog.follows .mixedOrders = true := by kernel_rfl
 go_wp2_with fail
 have hcW : (((w3.alloc (.cells #[.int .i64 (i : Int), .int .i64 (nx : Int)] 3)).alloc (.cells #[.slice (some ⟨w3.heap.size, 0, none⟩) 2 2] 57)).drew).cell? ⟨g, M.length, none⟩ = some oldv := by
  rw [World.cell?_drew, World.cell?_alloc_lt _ _ _ (by rw [World.size_alloc]; show g < _; omega), World.cell?_alloc_lt _ _ _ (by show g < _; omega)]
  exact hcg
 have hfW : (((w3.alloc (.cells #[.int .i64 (i : Int), .int .i64 (nx : Int)] 3)).alloc (.cells #[.slice (some ⟨w3.heap.size, 0, none⟩) 2 2] 57)).drew).frozen? ⟨g, M.length, none⟩ = false := by
  have h1 : But (fun _ => False) w3 (((w3.alloc (.cells #[.int .i64 (i : Int), .int .i64 (nx : Int)] 3)).alloc (.cells #[.slice (some ⟨w3.heap.size, 0, none⟩) 2 2] 57)).drew) := (((But.refl _ w3).alloc _).alloc _).drew
  rw [h1.frozen (p := ⟨g, M.length, none⟩) hlg (fun h => h)]
  exact hfg
 have BW : Hid (Below w3.heap.size w3 (((w3.alloc (.cells #[.int .i64 (i : Int), .int .i64 (nx : Int)] 3)).alloc (.cells #[.slice (some ⟨w3.heap.size, 0, none⟩) 2 2] 57)).drew)) := (((Below.refl _ w3).alloc (Nat.le_refl _) _).alloc (by simp) _).drew
 have NW : Hid (NdV (((w3.alloc (.cells #[.int .i64 (i : Int), .int .i64 (nx : Int)] 3)).alloc (.cells #[.slice (some ⟨w3.heap.size, 0, none⟩) 2 2] 57)).drew) (fun n => w3.heap.size ≤ n ∧ n < w3.heap.size + 2) (.func (.func 214) #[] #[.pointer (some ⟨w3.heap.size + 1, 0, none⟩)]) (.fork [i, nx])) := pair_fork w3 i nx
 have hst : (store ⟨g, M.length, none⟩ (.func (.func 214) #[] #[.pointer (some ⟨w3.heap.size + 1, 0, none⟩)])).run Tryz.prog (((w3.alloc (.cells #[.int .i64 (i : Int), .int .i64 (nx : Int)] 3)).alloc (.cells #[.slice (some ⟨w3.heap.size, 0, none⟩) 2 2] 57)).drew) = .ok () ((((w3.alloc (.cells #[.int .i64 (i : Int), .int .i64 (nx : Int)] 3)).alloc (.cells #[.slice (some ⟨w3.heap.size, 0, none⟩) 2 2] 57)).drew).setCell ⟨g, M.length, none⟩ (.func (.func 214) #[] #[.pointer (some ⟨w3.heap.size + 1, 0, none⟩)])) := by
  rw [run_store Tryz.prog _ _ _ _ rfl, hcW]
  simp [hfW]
 clear hcW hfW
 have EW : (((w3.setCell ⟨g, M.length, none⟩ (.func (.func 214) #[] #[.pointer (some ⟨w3.heap.size + 1, 0, none⟩)])).alloc (.cells #[.int .i64 (i : Int), .int .i64 (nx : Int)] 3)).alloc (.cells #[.slice (some ⟨w3.heap.size, 0, none⟩) 2 2] 57)).drew = (((w3.alloc (.cells #[.int .i64 (i : Int), .int .i64 (nx : Int)] 3)).alloc (.cells #[.slice (some ⟨w3.heap.size, 0, none⟩) 2 2] 57)).drew).setCell ⟨g, M.length, none⟩ (.func (.func 214) #[] #[.pointer (some ⟨w3.heap.size + 1, 0, none⟩)]) := by
  rw [World.setCell_drew, World.setCell_alloc_past _ _ _ _ (by rw [World.size_alloc]; omega), World.setCell_alloc_past _ _ _ _ (by omega)]
 have A4 : Hid (Aut ((((w3.setCell ⟨g, M.length, none⟩ (.func (.func 214) #[] #[.pointer (some ⟨w3.heap.size + 1, 0, none⟩)])).alloc (.cells #[.int .i64 (i : Int), .int .i64 (nx : Int)] 3)).alloc (.cells #[.slice (some ⟨w3.heap.size, 0, none⟩) 2 2] 57)).drew) B ab (.slice (some ⟨g, 0, none⟩) (M2.set M.length (.fork [i, nx])).length cap) (fun n => T3 n ∨ (w3.heap.size ≤ n ∧ n < w3.heap.size + 2)) (M2.set M.length (.fork [i, nx]))) := by
  rw [EW]
  exact (a3.out.on (S := fun _ => False) (But.of_below BW.out) (fun _ h => h.elim)).write HM2.out.1 NW.out (pair_ta a3.out (by simp))
 have c5 : ((((w3.setCell ⟨g, M.length, none⟩ (.func (.func 214) #[] #[.pointer (some ⟨w3.heap.size + 1, 0, none⟩)])).alloc (.cells #[.int .i64 (i : Int), .int .i64 (nx : Int)] 3)).alloc (.cells #[.slice (some ⟨w3.heap.size, 0, none⟩) 2 2] 57)).drew).cell? ⟨w.heap.size, 259, none⟩ = some (.int .u8 42) := by
  rw [EW]
  exact (((K3.out.below BW.out K3.out.lt).setOther (by have := HG.out; show g ≠ _; omega) _).cell 259).trans HC9.out
 have B5 : Hid (But (AutS ab v) (w.alloc (.cells C.toArray 164)) ((((w3.setCell ⟨g, M.length, none⟩ (.func (.func 214) #[] #[.pointer (some ⟨w3.heap.size + 1, 0, none⟩)])).alloc (.cells #[.int .i64 (i : Int), .int .i64 (nx : Int)] 3)).alloc (.cells #[.slice (some ⟨w3.heap.size, 0, none⟩) 2 2] 57)).drew)) := by
  rw [EW]
  exact (B3.out.add BW.out).setCell (p := ⟨g, M.length, none⟩) (fun h => .inr (by
   rcases R3.out with e | e
   ·rw [← e]; rfl
   ·have := e g rfl
    exact absurd h (by show ¬ g < _; omega))) _
 have TF : Hid (∀ n, (T3 n ∨ (w3.heap.size ≤ n ∧ n < w3.heap.size + 2)) → T n ∨ (w.alloc (.cells C.toArray 164)).heap.size ≤ n) := fun n hn => by
  have h1 := B3.out.size
  have h2 := b2.out.size
  rcases hn with hn | hn
  ·rcases t3.out n hn with (h | h) | h
   ·exact .inl h
   ·exact h.elim
   ·exact .inr (by omega)
  ·exact .inr (by omega)
 clear EW NW
 go_region_with (go_at_call 208; refine (fork_any _ _ _ _).mono ?_; rintro e w' ⟨rfl, rfl⟩)
 all_goals
  try (go_wp2_with fail)
  go_ret
  refine AutP.of (w0 := w.alloc (.cells C.toArray 164)) ⟨rfl, _, _, A4, B5, ?_, fun n hn => TF.out n hn⟩ b1.out
  rcases R3.out with e | e
  ·exact .inl e
  ·exact .inr e
set_option maxHeartbeats 4000000 in
set_option maxRecDepth 100000 in
theorem factor_plus (p : Pe) (hp : p.rp = .plus) (H : Atom86 p) : Fac81 p := by
 intro B ab v T M nx C w TT ha hpe hTT hnx hM
 rw [cF_cT, hp]
 have hM1 : (M ++ [Nd.hole]).length + 50000 * wT p ≤ 900000000 := by rw [wF_wT, hp] at hM; simp only [wR] at hM; rw [List.length_append, List.length_singleton]; omega
 have hML : M.length ≤ 900000000 := by omega
 have HCL := Lib.hid hpe.len
 have k1 : Hid (Blk (w.alloc (.cells C.toArray 164)) w.heap.size 164 C) := Blk.new w 164 C
 have b1 : Hid (Below w.heap.size w (w.alloc (.cells C.toArray 164))) := (Below.refl _ _).alloc (Nat.le_refl _) _
 have HC9 := Lib.hid hpe.rp
 rw [hp] at HC9
 have c1 : (w.alloc (.cells C.toArray 164)).cell? ⟨w.heap.size, 259, none⟩ = some (.int .u8 43) := (k1.out.cell 259).trans HC9.out
 have A1 : Hid (Aut (w.alloc (.cells C.toArray 164)) B ab v T M) := ha.on (S := fun _ => False) (But.of_below b1.out) (fun _ h => h.elim)
 have CN : Hid (Calls Tryz.prog 195 #[.pointer (some ⟨ab, 0, none⟩), Value.nilFunc] (w.alloc (.cells C.toArray 164)) (AddP ab B v (fun n => T n ∨ False) (w.alloc (.cells C.toArray 164)) M.length (M ++ [.hole]))) := add_any_ ab B v _ T (fun _ => False) M .hole _ A1.out rfl (fun _ h => h.elim) (by omega)
 have HPE := Lib.hid hpe
 have HTT := Lib.hid hTT
 have HLT : Hid (B ≤ ab ∧ ab < w.heap.size ∧ ∀ k, v.ownBlock = some k → k < w.heap.size) := ⟨ha.base, ha.lt, fun k hk => (ha.rowLt k hk).2⟩
 have CH : Hid (∀ v2 T2 w2, Aut w2 B ab v2 T2 (M ++ [.hole]) → PeV w2 TT C p → Calls Tryz.prog 217 #[.pointer (some ⟨ab, 0, none⟩), .agg C.toArray, .int .i64 (M.length : Int)] w2 (AutP ab B v2 T2 w2 (cT p (M ++ [.hole]) M.length).1 (cT p (M ++ [.hole]) M.length).2)) := fun v2 T2 w2 h1 h2 => H B ab v2 T2 (M ++ [.hole]) M.length C w2 TT h1 h2 hTT (by omega) hM1
 have HL2 := Lib.hid (cT_len p (M ++ [.hole]) M.length)
 clear ha hpe hTT hM hM1 H
 show Calls _ _ _ _ (AutP ab B v T w (cT p (M ++ [.hole]) M.length).1 ((cT p (M ++ [.hole]) M.length).2.set M.length (.fork [(cT p (M ++ [.hole]) M.length).1, nx])))
 generalize cT p (M ++ [.hole]) M.length = q at *
 obtain ⟨i, M2⟩ := q
 have HM2 : Hid (M.length < M2.length ∧ 0 < M2.length) := by
  have h := HL2.out
  simp only [List.length_append, List.length_singleton] at h
  exact ⟨by omega, by omega⟩
 go_enter Tryz.func213, Tryz.ntmps213
 go_wp2_with (first | ((with_reducible refine wpList_load_abs (o := ⟨_, .load 164 (.tmp 4), _, _, _, _⟩) rfl 164 _ rfl w.heap.size 0 ?_ C K2.out.range _ Tryz.underlying164 rfl 260 size47 HCL.out.1 ?_); (· rfl)) | (go_at_call 195; refine CN.out.mono ?_; rintro e w2 ⟨rfl, v2, a2, b2, r2⟩; have P2 : Hid (PeV w2 TT C p) := (PeV.keep (fun _ h => h) (fun g j hg => by have hgb := HTT.out g hg; have hlt := HLT.out; have e1 := b1.out.cell (p := ⟨g, j, none⟩) (by show g < w.heap.size; omega); have e2 := b2.out.cell (p := ⟨g, j, none⟩) (by show g < (w.alloc _).heap.size; rw [World.size_alloc]; omega) (by intro hs; rcases hs with hs | hs; (have hs : g = ab := hs; omega); (have hr := (A1.out.rowLt g hs.symm).1; omega)); exact e2.trans e1) HPE.out); have K2 : Hid (Blk w2 w.heap.size 164 C) := k1.out.but b2.out (by intro hs; have hlt := HLT.out; rcases hs with hs | hs; omega; (have hr := HLT.out.2.2 w.heap.size hs.symm; omega))))
 refine (CH.out v2 _ _ a2.out P2.out).mono ?_
 rintro e w3 ⟨rfl, v3, T3, a3, b3, r3, t3⟩
 have R3 : Hid (RowTo (w.alloc (.cells C.toArray 164)) v v3) := r2.out.trans r3.out b2.out.size
 have B3 : Hid (But (AutS ab v) (w.alloc (.cells C.toArray 164)) w3) := b2.out.aut b3.out r2.out
 have K3 : Hid (Blk w3 w.heap.size 164 C) := K2.out.but b3.out (by
  intro hs
  have hlt := HLT.out
  rcases hs with hs | hs
  ·omega
  ·rcases r2.out with h | h
   ·have hr := HLT.out.2.2 w.heap.size (by rw [← h]; exact hs.symm)
    omega
   ·have := h _ hs.symm
    rw [World.size_alloc] at this
    omega)
 obtain ⟨g, cap, cur, rfl, hgB, hgab, hgh, hgc⟩ := a3.out.form HM2.out.2
 have HG : Hid (B ≤ g ∧ g ≠ ab ∧ g < w3.heap.size ∧ ab < w3.heap.size ∧ w.heap.size < w3.heap.size ∧ g ≠ w.heap.size ∧ w.heap.size + 1 ≤ w3.heap.size) := ⟨hgB, hgab, (Array.getElem?_eq_some_iff.1 hgh).1, a3.out.lt, K3.out.lt, (fun e => by
  have h := K3.out
  have h' : w3.heap[w.heap.size]? = _ := h
  rw [← e, hgh] at h'
  injection h' with h'
  injection h' with _ h2 _
  cases h2), (by have := K3.out.lt; omega)⟩
 obtain ⟨n3, hb3⟩ := a3.out.blk
 have c3 : w3.cell? ⟨ab, 0, none⟩ = some (.slice (some ⟨g, 0, none⟩) M2.length cap) := hb3.cell 0
 have CG := Lib.hid hgh
 have hcg : w3.cell? ⟨g, M.length, none⟩ = some cur[M.length]! := by
  rw [cell_of_row w3 g M.length cur 217 (0, 0) hgh, getElem!_pos cur M.length (by have := HM2.out; omega)]
  exact Array.getElem?_eq_getElem _
 have hfg : w3.frozen? ⟨g, M.length, none⟩ = false := by simp [World.frozen?, hgh]
 generalize cur[M.length]! = oldv at hcg
 have hlab : ab < w3.heap.size := HG.out.2.2.2.1
 have hlg : g < w3.heap.size := HG.out.2.2.1
 have hne : g ≠ w3.heap.size := by omega
 have hne2 : g ≠ w3.heap.size + 1 := by omega
 have hMM : (M.length : Int) < (M2.length : Int) := by have := HM2.out; omega
 have CF := Lib.hid (fun wx => fork_any (some ⟨w3.heap.size, 0, none⟩) 2 2 wx)
 clear hb3 hgB hgab hgh hgc c1
 have mixed : Tryz.prog.follows .mixedOrders = true := by kernel_rfl
 go_wp2_with fail
 have hcW : (((w3.alloc (.cells #[.int .i64 (i : Int), .int .i64 (nx : Int)] 3)).alloc (.cells #[.slice (some ⟨w3.heap.size, 0, none⟩) 2 2] 57)).drew).cell? ⟨g, M.length, none⟩ = some oldv := by
  rw [World.cell?_drew, World.cell?_alloc_lt _ _ _ (by rw [World.size_alloc]; show g < _; omega), World.cell?_alloc_lt _ _ _ (by show g < _; omega)]
  exact hcg
 have hfW : (((w3.alloc (.cells #[.int .i64 (i : Int), .int .i64 (nx : Int)] 3)).alloc (.cells #[.slice (some ⟨w3.heap.size, 0, none⟩) 2 2] 57)).drew).frozen? ⟨g, M.length, none⟩ = false := by
  have h1 : But (fun _ => False) w3 (((w3.alloc (.cells #[.int .i64 (i : Int), .int .i64 (nx : Int)] 3)).alloc (.cells #[.slice (some ⟨w3.heap.size, 0, none⟩) 2 2] 57)).drew) := (((But.refl _ w3).alloc _).alloc _).drew
  rw [h1.frozen (p := ⟨g, M.length, none⟩) hlg (fun h => h)]
  exact hfg
 have BW : Hid (Below w3.heap.size w3 (((w3.alloc (.cells #[.int .i64 (i : Int), .int .i64 (nx : Int)] 3)).alloc (.cells #[.slice (some ⟨w3.heap.size, 0, none⟩) 2 2] 57)).drew)) := (((Below.refl _ w3).alloc (Nat.le_refl _) _).alloc (by simp) _).drew
 have NW : Hid (NdV (((w3.alloc (.cells #[.int .i64 (i : Int), .int .i64 (nx : Int)] 3)).alloc (.cells #[.slice (some ⟨w3.heap.size, 0, none⟩) 2 2] 57)).drew) (fun n => w3.heap.size ≤ n ∧ n < w3.heap.size + 2) (.func (.func 214) #[] #[.pointer (some ⟨w3.heap.size + 1, 0, none⟩)]) (.fork [i, nx])) := pair_fork w3 i nx
 have hst : (store ⟨g, M.length, none⟩ (.func (.func 214) #[] #[.pointer (some ⟨w3.heap.size + 1, 0, none⟩)])).run Tryz.prog (((w3.alloc (.cells #[.int .i64 (i : Int), .int .i64 (nx : Int)] 3)).alloc (.cells #[.slice (some ⟨w3.heap.size, 0, none⟩) 2 2] 57)).drew) = .ok () ((((w3.alloc (.cells #[.int .i64 (i : Int), .int .i64 (nx : Int)] 3)).alloc (.cells #[.slice (some ⟨w3.heap.size, 0, none⟩) 2 2] 57)).drew).setCell ⟨g, M.length, none⟩ (.func (.func 214) #[] #[.pointer (some ⟨w3.heap.size + 1, 0, none⟩)])) := by
  rw [run_store Tryz.prog _ _ _ _ rfl, hcW]
  simp [hfW]
 clear hcW hfW
 have EW : (((w3.setCell ⟨g, M.length, none⟩ (.func (.func 214) #[] #[.pointer (some ⟨w3.heap.size + 1, 0, none⟩)])).alloc (.cells #[.int .i64 (i : Int), .int .i64 (nx : Int)] 3)).alloc (.cells #[.slice (some ⟨w3.heap.size, 0, none⟩) 2 2] 57)).drew = (((w3.alloc (.cells #[.int .i64 (i : Int), .int .i64 (nx : Int)] 3)).alloc (.cells #[.slice (some ⟨w3.heap.size, 0, none⟩) 2 2] 57)).drew).setCell ⟨g, M.length, none⟩ (.func (.func 214) #[] #[.pointer (some ⟨w3.heap.size + 1, 0, none⟩)]) := by
  rw [World.setCell_drew, World.setCell_alloc_past _ _ _ _ (by rw [World.size_alloc]; omega), World.setCell_alloc_past _ _ _ _ (by omega)]
 have A4 : Hid (Aut ((((w3.setCell ⟨g, M.length, none⟩ (.func (.func 214) #[] #[.pointer (some ⟨w3.heap.size + 1, 0, none⟩)])).alloc (.cells #[.int .i64 (i : Int), .int .i64 (nx : Int)] 3)).alloc (.cells #[.slice (some ⟨w3.heap.size, 0, none⟩) 2 2] 57)).drew) B ab (.slice (some ⟨g, 0, none⟩) (M2.set M.length (.fork [i, nx])).length cap) (fun n => T3 n ∨ (w3.heap.size ≤ n ∧ n < w3.heap.size + 2)) (M2.set M.length (.fork [i, nx]))) := by
  rw [EW]
  exact (a3.out.on (S := fun _ => False) (But.of_below BW.out) (fun _ h => h.elim)).write HM2.out.1 NW.out (pair_ta a3.out (by simp))
 have c5 : ((((w3.setCell ⟨g, M.length, none⟩ (.func (.func 214) #[] #[.pointer (some ⟨w3.heap.size + 1, 0, none⟩)])).alloc (.cells #[.int .i64 (i : Int), .int .i64 (nx : Int)] 3)).alloc (.cells #[.slice (some ⟨w3.heap.size, 0, none⟩) 2 2] 57)).drew).cell? ⟨w.heap.size, 259, none⟩ = some (.int .u8 43) := by
  rw [EW]
  exact (((K3.out.below BW.out K3.out.lt).setOther (by have := HG.out; show g ≠ _; omega) _).cell 259).trans HC9.out
 have B5 : Hid (But (AutS ab v) (w.alloc (.cells C.toArray 164)) ((((w3.setCell ⟨g, M.length, none⟩ (.func (.func 214) #[] #[.pointer (some ⟨w3.heap.size + 1, 0, none⟩)])).alloc (.cells #[.int .i64 (i : Int), .int .i64 (nx : Int)] 3)).alloc (.cells #[.slice (some ⟨w3.heap.size, 0, none⟩) 2 2] 57)).drew)) := by
  rw [EW]
  exact (B3.out.add BW.out).setCell (p := ⟨g, M.length, none⟩) (fun h => .inr (by
   rcases R3.out with e | e
   ·rw [← e]; rfl
   ·have := e g rfl
    exact absurd h (by show ¬ g < _; omega))) _
 have TF : Hid (∀ n, (T3 n ∨ (w3.heap.size ≤ n ∧ n < w3.heap.size + 2)) → T n ∨ (w.alloc (.cells C.toArray 164)).heap.size ≤ n) := fun n hn => by
  have h1 := B3.out.size
  have h2 := b2.out.size
  rcases hn with hn | hn
  ·rcases t3.out n hn with (h | h) | h
   ·exact .inl h
   ·exact h.elim
   ·exact .inr (by omega)
  ·exact .inr (by omega)
 clear EW NW
 go_region_with (go_at_call 208; refine (fork_any _ _ _ _).mono ?_; rintro e w' ⟨rfl, rfl⟩)
 all_goals
  try (go_wp2_with fail)
  go_ret
  refine AutP.of (w0 := w.alloc (.cells C.toArray 164)) ⟨rfl, _, _, A4, B5, ?_, fun n hn => TF.out n hn⟩ b1.out
  rcases R3.out with e | e
  ·exact .inl e
  ·exact .inr e
end Go.Proofs.YtdeppcddknakjaaGreatDoor.Rx
namespace Go.Proofs.YtdeppcddknakjaaGreatDoor.Rx
open Go.RowKit
open Go.Shelf
attribute [local go_sem] Oper.semAt_some
theorem NdV.kept {w w' : World} {T : Nat → Prop} {v : Value} {x : Nd} (h : NdV w T v x) (hk : ∀ a u, w.cell? a = some u → w'.cell? a = some u) : NdV w' T v x := by
 cases x with
 | fin => exact h
 | hole => exact h
 | read f nx =>
  obtain ⟨b1, b2, h1, h2, h3, h4, h5⟩ := h
  exact ⟨b1, b2, h1, h2, h3, fun j v hv => hk _ _ (h4 j v hv), hk _ _ h5⟩
 | fork l =>
  obtain ⟨b1, A, cap, h1, h2, h3, h4⟩ := h
  refine ⟨b1, A, cap, h1, h2, hk _ _ h3, fun hl => ?_⟩
  obtain ⟨g, h5, h6, h7⟩ := h4 hl
  exact ⟨g, h5, h6, fun j hj => hk _ _ (h7 j hj)⟩
theorem blk_kept {W W' : World} {row : Option Nat} {g : Nat} {t : TypeId} {l : List Value} (h : Blk W g t l) (hg : W.grownBy W' row) (hrow : ∀ r, row = some r → ∃ o : Obj, W.heap[r]? = some o ∧ o.isCells = false) : Blk W' g t l :=
 (grownBy_keeps_cells hg hrow h rfl).trans h
theorem Aut.kept {W W' : World} {row : Option Nat} {B ab : Nat} {v : Value} {T : Nat → Prop} {M : List Nd} (h : Aut W B ab v T M) (hg : W.grownBy W' row) (hrow : ∀ r, row = some r → ∃ o : Obj, W.heap[r]? = some o ∧ o.isCells = false) : Aut W' B ab v T M := by
 obtain ⟨n, hb⟩ := h.blk
 obtain ⟨xs, hr, hn⟩ := h.row
 refine ⟨⟨n, blk_kept hb hg hrow⟩, h.base, ⟨xs, ⟨hr.1, ?_⟩, hn.1, fun j hj => ?_⟩, fun n hn => ⟨(h.sub n hn).1, Nat.lt_of_lt_of_le (h.sub n hn).2.1 hg.size, (h.sub n hn).2.2⟩⟩
 ·rcases hr.2 with h0 | ⟨g, cap, cur, e, h1, h2, h3⟩
  ·exact .inl h0
  ·exact .inr ⟨g, cap, cur, e, h1, (grownBy_keeps_cells hg hrow h2 rfl).trans h2, h3⟩
 ·obtain ⟨u, h1, h2⟩ := hn.2 j hj
  exact ⟨u, h1, h2.kept (fun a u hu => cell_kept hu hg hrow)⟩
theorem Aut.apart {W : World} {B ab g : Nat} {v : Value} {T : Nat → Prop} {M : List Nd} {t : TypeId} {xs : List Value} (h : Aut W B ab v T M) (hk : Blk W g t xs) (ht : t ≠ 217) : some g ≠ v.ownBlock := by
 obtain ⟨ys, hr, _⟩ := h.row
 intro e
 rcases hr.2 with ⟨rfl, _⟩ | ⟨g', cap, cur, rfl, _, hg, _⟩
 ·cases e
 ·have e : some g = some g' := e
  injection e with e
  subst e
  have hk' : W.heap[g]? = _ := hk
  rw [hg] at hk'
  injection hk' with hk'
  injection hk' with _ h2 _
  exact ht h2.symm
theorem Aut.keepsOthers {W W' : World} {B ab : Nat} {v : Value} {T : Nat → Prop} {M : List Nd} (h : Aut W B ab v T M) (k : But (AutS ab v) W W') : KeepsOthers W W' := by
 refine ⟨k.size, fun i o hi ho => (k.block i (Array.getElem?_eq_some_iff.1 hi).1 (fun hs => ?_)).trans hi⟩
 rcases hs with rfl | hs
 ·obtain ⟨n, hb⟩ := h.blk
  have hb : W.heap[i]? = _ := hb
  rw [hi] at hb
  injection hb with hb
  subst hb
  cases ho
 ·obtain ⟨ys, hr, _⟩ := h.row
  rcases hr.2 with ⟨rfl, _⟩ | ⟨g', cap, cur, rfl, _, hg, _⟩
  ·cases hs
  ·have e : some i = some g' := hs
   injection e with e
   subst e
   rw [hi] at hg
   injection hg with hg
   subst hg
   cases ho
theorem cT_first' (p : Pe) (m : List Nd) (nx : Nat) : (cT p m nx).1 ≤ (cT p m nx).2.length := by
 cases p with
 | byte c r => show m.length ≤ (m ++ [_]).length; simp
 | cls f r => show m.length ≤ (m ++ [_]).length; simp
 | sub e r => show (cB e m nx).2.length ≤ ((cB e m nx).2 ++ [_]).length; simp
theorem cF_first' (p : Pe) (m : List Nd) (nx : Nat) : (cF p m nx).1 ≤ (cF p m nx).2.length := by
 rw [cF_cT]
 unfold cR
 cases p.rp with
 | one => exact cT_first' p m nx
 | opt => show _ ≤ (_ ++ [_]).length; rw [List.length_append]; exact Nat.le_add_right _ _
 | star =>
  show m.length ≤ (List.set _ _ _).length
  rw [List.length_set, cT_len, List.length_append]
  omega
 | plus =>
  show _ ≤ (List.set _ _ _).length
  rw [List.length_set]
  exact cT_first' p _ _
/-- What an alternative's states are when some places have come. -/
def fA (l : List Pe) (M : List Nd) (nx : Nat) (pre : List (Fin l.length)) : Nat × List Nd := pre.foldl (fun q j => cF l[j] q.2 q.1) (nx, M)
theorem fA_nil (l : List Pe) (M : List Nd) (nx : Nat) : fA l M nx [] = (nx, M) := rfl
theorem fA_snoc (l : List Pe) (M : List Nd) (nx : Nat) (pre : List (Fin l.length)) (x : Fin l.length) : fA l M nx (pre ++ [x]) = cF l[x] (fA l M nx pre).2 (fA l M nx pre).1 := by
 unfold fA
 rw [List.foldl_append]
 rfl
theorem cA_foldr : ∀ (l : List Pe) (M : List Nd) (nx : Nat), cA l M nx = l.foldr (fun p q => cF p q.2 q.1) (nx, M)
 | [], M, nx => by rw [cA]; rfl
 | p :: l, M, nx => by rw [cA, List.foldr_cons, cA_foldr l]
theorem fA_all (l : List Pe) (M : List Nd) (nx : Nat) : fA l M nx (bk l.length 0) = cA l M nx := by
 unfold fA
 rw [bk_zero, List.foldl_reverse, cA_foldr]
 have h : l = (List.finRange l.length).map (fun j => l[j]) := by
  apply List.ext_getElem
  ·simp
  ·intro i h1 h2
   simp
 conv => rhs; rw [h]
 rw [List.foldr_map]
theorem wF_le : ∀ (l : List Pe) (p : Pe), p ∈ l → wF p ≤ wA l
 | [], p, h => by cases h
 | q :: l, p, h => by
  rw [wA]
  rcases List.mem_cons.1 h with rfl | h
  ·omega
  ·have := wF_le l p h
   omega
theorem wF_lt : ∀ (l : List Pe) (p : Pe), p ∈ l → wF p + l.length ≤ wA l + 1
 | [], p, h => by cases h
 | q :: l, p, h => by
  rw [wA, List.length_cons]
  rcases List.mem_cons.1 h with rfl | h
  ·have := wA_len l
   omega
  ·have := wF_lt l p h
   have := wF_pos q
   omega
theorem fA_len (l : List Pe) (M : List Nd) (nx : Nat) (pre : List (Fin l.length)) : (fA l M nx pre).2.length ≤ M.length + pre.length * wA l ∧ (fA l M nx pre).1 ≤ max nx (fA l M nx pre).2.length := by
 suffices h : ∀ (q : List (Fin l.length)), (fA l M nx q.reverse).2.length ≤ M.length + q.length * wA l ∧ (fA l M nx q.reverse).1 ≤ max nx (fA l M nx q.reverse).2.length by
  have h := h pre.reverse
  rw [List.reverse_reverse, List.length_reverse] at h
  exact h
 intro q
 induction q with
 | nil => exact ⟨by rw [List.reverse_nil, fA_nil]; simp, by rw [List.reverse_nil, fA_nil]; exact Nat.le_max_left _ _⟩
 | cons x q ih =>
  rw [List.reverse_cons, fA_snoc]
  refine ⟨?_, Nat.le_trans (cF_first' _ _ _) (Nat.le_max_right _ _)⟩
  rw [cF_len, List.length_cons, Nat.succ_mul]
  have h1 := wF_le l l[x] (List.getElem_mem _)
  have h2 := ih.1
  omega
theorem alt_room (l : List Pe) (M : List Nd) (nx : Nat) (pre : List (Fin l.length)) (x : Fin l.length) (hp : pre.length < l.length) (hw : wA l ≤ 200) (hM : M.length + 50000 * wA l ≤ 900000000) (hnx : nx ≤ 1000000000) :
  (fA l M nx pre).2.length + 50000 * wF l[x] ≤ 900000000 ∧ (fA l M nx pre).1 ≤ 1000000000 := by
 obtain ⟨h1, h2⟩ := fA_len l M nx pre
 have h3 := wF_lt l l[x] (List.getElem_mem _)
 have h4 := wA_len l
 have h5 : pre.length * wA l ≤ (l.length - 1) * 200 := Nat.mul_le_mul (by omega) hw
 have h6 : (fA l M nx pre).2.length + 50000 * wF l[x] ≤ 900000000 := by
  rcases Nat.lt_or_ge 1 l.length with h | h
  ·omega
  ·have h0 : pre.length = 0 := by omega
   rw [h0] at h1
   omega
 refine ⟨h6, Nat.le_trans h2 ?_⟩
 rw [Nat.max_le]
 omega
/-- The loop's invariant. -/
structure IA (l : List Pe) (B ab : Nat) (v : Value) (T : Nat → Prop) (M : List Nd) (nx : Nat) (A : Option Addr) (cap : Nat) (w : World) (pre : List (Fin l.length)) (W : World) : Prop where
 b0 : Blk W w.heap.size 228 [.pointer (some ⟨ab, 0, none⟩)]
 b1 : Blk W (w.heap.size + 1) 3 [.int .i64 ((fA l M nx pre).1 : Nat)]
 b2 : Blk W (w.heap.size + 2) 161 [.slice A l.length cap]
 but : But (AutS ab v) w W
 aut : ∃ v' T', Aut W B ab v' T' (fA l M nx pre).2 ∧ RowTo w v v' ∧ ∀ n, T' n → T n ∨ w.heap.size + 3 ≤ n
theorem IA.kept {l : List Pe} {B ab : Nat} {v : Value} {T : Nat → Prop} {M : List Nd} {nx : Nat} {A : Option Addr} {cap : Nat} {w : World} {pre : List (Fin l.length)} {W W' : World} {row : Option Nat} (h : IA l B ab v T M nx A cap w pre W)
  (hg : W.grownBy W' row) (hrow : ∀ r, row = some r → w.heap.size + 3 ≤ r ∧ ∃ o : Obj, W.heap[r]? = some o ∧ o.isCells = false) : IA l B ab v T M nx A cap w pre W' := by
 have hr : ∀ r, row = some r → ∃ o : Obj, W.heap[r]? = some o ∧ o.isCells = false := fun r e => (hrow r e).2
 obtain ⟨v', T', ha, h1, h2⟩ := h.aut
 exact ⟨blk_kept h.b0 hg hr, blk_kept h.b1 hg hr, blk_kept h.b2 hg hr, h.but.grown hg (fun k e hk => by have := (hrow k e).1; omega), ⟨v', T', ha.kept hg hr, h1, h2⟩⟩
/-- A round of the loop. -/
theorem IA.step {l : List Pe} {B ab : Nat} {v : Value} {T : Nat → Prop} {M : List Nd} {nx : Nat} {A : Option Addr} {cap : Nat} {w : World} {pre : List (Fin l.length)} {W w2 : World} {x : Fin l.length} (hT : ∀ n, T n → n < w.heap.size) (hB : B ≤ w.heap.size) (hab : ab < w.heap.size)
  (h : IA l B ab v T M nx A cap w pre W) {v1 v2 : Value} {T1 T2 : Nat → Prop} (ha : Aut W B ab v1 T1 (fA l M nx pre).2) (hr : RowTo w v v1) (ht : ∀ n, T1 n → T n ∨ w.heap.size + 3 ≤ n)
  (a2 : Aut w2 B ab v2 T2 (cF l[x] (fA l M nx pre).2 (fA l M nx pre).1).2) (b2 : But (AutS ab v1) W w2) (r2 : RowTo W v1 v2) (t2 : ∀ n, T2 n → T1 n ∨ W.heap.size ≤ n) :
  w2.cell? ⟨w.heap.size + 1, 0, none⟩ = some (.int .i64 ((fA l M nx pre).1 : Nat)) ∧ w2.frozen? ⟨w.heap.size + 1, 0, none⟩ = false ∧
  KeepsOthers W (w2.setCell ⟨w.heap.size + 1, 0, none⟩ (.int .i64 ((cF l[x] (fA l M nx pre).2 (fA l M nx pre).1).1 : Nat))) ∧ KpB B (w.heap.size + 2) W (w2.setCell ⟨w.heap.size + 1, 0, none⟩ (.int .i64 ((cF l[x] (fA l M nx pre).2 (fA l M nx pre).1).1 : Nat))) ∧
  IA l B ab v T M nx A cap w (pre ++ [x]) (w2.setCell ⟨w.heap.size + 1, 0, none⟩ (.int .i64 ((cF l[x] (fA l M nx pre).2 (fA l M nx pre).1).1 : Nat))) := by
 have hsz : w.heap.size + 3 ≤ W.heap.size := by have := h.b2.lt; omega
 have n0 : ¬ AutS ab v1 w.heap.size := fun hs => by
  rcases hs with hs | hs
  ·omega
  ·exact ha.apart h.b0 (by decide) hs
 have n1 : ¬ AutS ab v1 (w.heap.size + 1) := fun hs => by
  rcases hs with hs | hs
  ·omega
  ·exact ha.apart h.b1 (by decide) hs
 have n2 : ¬ AutS ab v1 (w.heap.size + 2) := fun hs => by
  rcases hs with hs | hs
  ·omega
  ·exact ha.apart h.b2 (by decide) hs
 have c1 := h.b1.but b2 n1
 have lw : Below B W w2 := b2.below (by omega) (fun n hs => by
  rcases hs with hs | hs
  ·have := ha.base
   omega
  ·exact (ha.rowLt n hs.symm).1)
 have l1 : ∀ n, n ≠ w.heap.size + 1 → ∀ u, (w2.setCell ⟨w.heap.size + 1, 0, none⟩ u).heap[n]? = w2.heap[n]? := fun n hn u => Below.heap_setCell _ _ _ _ hn
 refine ⟨c1.cell 0, c1.froz 0, (ha.keepsOthers b2).trans (KeepsOthers.setCell _ _ _), ⟨lw.setCell (p := ⟨w.heap.size + 1, 0, none⟩) (by show B ≤ _ + 1; omega) _, (l1 _ (by omega) _).trans (b2.block _ (by omega) n2)⟩, ?_⟩
 have hs2 := b2.size
 refine ⟨(l1 _ (by omega) _).trans (h.b0.but b2 n0), by rw [fA_snoc]; exact c1.set 0 _, (l1 _ (by omega) _).trans (h.b2.but b2 n2), (h.but.aut b2 hr).setCell (p := ⟨w.heap.size + 1, 0, none⟩) (fun hp => by have hp : w.heap.size + 1 < w.heap.size := hp; omega) _, v2, T2, ?_, hr.trans r2 h.but.size, fun n hn => ?_⟩
 ·rw [fA_snoc]
  exact a2.off (S := (· = w.heap.size + 1)) (But.setCell (S := (· = w.heap.size + 1)) (But.refl _ _) (p := ⟨w.heap.size + 1, 0, none⟩) (fun _ => rfl) _) (fun n hs hn => by
   subst hs
   refine ⟨by omega, a2.apart c1 (by decide), fun hT2 => ?_⟩
   rcases t2 _ hT2 with h3 | h3
   ·rcases ht _ h3 with h4 | h4
    ·have := hT _ h4
     omega
    ·omega
   ·omega)
 ·rcases t2 n hn with h3 | h3
  ·exact ht n h3
  ·exact .inr (by omega)
end Go.Proofs.YtdeppcddknakjaaGreatDoor.Rx
namespace Go.Proofs.YtdeppcddknakjaaGreatDoor.Rx
open Go.RowKit
open Go.Shelf
attribute [local go_sem] Oper.semAt_some
theorem IA.fresh {l : List Pe} {B ab : Nat} {v : Value} {T : Nat → Prop} {M : List Nd} {nx : Nat} {A : Option Addr} {cap : Nat} {w : World} {pre : List (Fin l.length)} {W w1 w2 : World} {g : Nat} (h : IA l B ab v T M nx A cap w pre W)
  (b1 : Below W.heap.size W w1) (q1 : KeepsOthers W w1) (b2 : But (· = g) w1 w2) (q2 : KeepsOthers w1 w2) (e1 : W.heap.size = g) : IA l B ab v T M nx A cap w pre w2 := by
 have b3 : But (fun _ => False) W w2 := (But.of_below b1).trans b2 (fun n hn hs => by have hs : n = g := hs; omega)
 obtain ⟨v1, T1, ha1, hr1, ht1⟩ := h.aut
 exact ⟨h.b0.but b3 (fun h => h), h.b1.but b3 (fun h => h), h.b2.but b3 (fun h => h), h.but.trans b3 (fun _ _ h => h.elim), v1, T1, ha1.on b3 (fun _ h => h.elim), hr1, ht1⟩
set_option maxHeartbeats 4000000 in
set_option maxRecDepth 100000 in
theorem alt_in (l : List Pe) (H : ∀ p ∈ l, Fac81 p) (hw : wA l ≤ 200) (B ab : Nat) (v : Value) (T : Nat → Prop) (M : List Nd) (nx : Nat) (A : Option Addr) (cap : Nat) (w : World) (TT : Nat → Prop) (ha : Aut w B ab v T M) (hfs : FsV w TT A l) (hTT : ∀ n, TT n → n < B) (hnx : nx ≤ 1000000000) (hM : M.length + 50000 * wA l ≤ 900000000) :
  CallsIn Fence.wide 3 Tryz.prog 207 #[.pointer (some ⟨ab, 0, none⟩), .slice A l.length cap, .int .i64 (nx : Int)] w (AutP ab B v T w (cA l M nx).1 (cA l M nx).2) := by
 obtain ⟨Cs, hCs⟩ : ∃ Cs : Nat → List Value, ∀ j (hj : j < l.length), (∃ g, A = some ⟨g, 0, none⟩ ∧ TT g ∧ w.rangeAt g (j * 260) (Cs j)) ∧ PeV w TT (Cs j) l[j] := by
  have hex : ∀ j : Nat, ∃ C : List Value, ∀ hj : j < l.length, (∃ g, A = some ⟨g, 0, none⟩ ∧ TT g ∧ w.rangeAt g (j * 260) C) ∧ PeV w TT C l[j] := fun j => by
   by_cases hj : j < l.length
   ·obtain ⟨g, h1, h2, h3⟩ := hfs (fun e => by rw [e] at hj; simp at hj)
    obtain ⟨C, h4, h5⟩ := h3.at_ j hj
    rw [Nat.zero_add] at h4
    exact ⟨C, fun _ => ⟨⟨g, h1, h2, h4⟩, h5⟩⟩
   ·exact ⟨[], fun h => absurd h hj⟩
  exact ⟨fun j => Classical.choose (hex j), fun j hj => Classical.choose_spec (hex j) hj⟩
 have hl := wA_len l
 obtain ⟨W0, hW0⟩ : ∃ W0, W0 = (((w.alloc (.cells #[.pointer (some ⟨ab, 0, none⟩)] 228)).alloc (.cells #[.int .i64 (nx : Int)] 3)).alloc (.cells #[.slice A l.length cap] 161)) := ⟨_, rfl⟩
 have hsz : W0.heap.size = w.heap.size + 3 := by rw [hW0]; simp
 have hB0 : Below w.heap.size w W0 := by rw [hW0]; exact ((((Below.refl _ w).alloc (Nat.le_refl _) _).alloc (by simp) _).alloc (by simp; omega) _)
 have hab := ha.lt
 have hBab := ha.base
 have hT : ∀ n, T n → n < w.heap.size := fun n hn => (ha.sub n hn).2.1
 have k2 : Blk W0 (w.heap.size + 2) 161 [.slice A l.length cap] := by
  have h := Blk.new ((w.alloc (.cells #[.pointer (some ⟨ab, 0, none⟩)] 228)).alloc (.cells #[.int .i64 (nx : Int)] 3)) 161 [.slice A l.length cap]
  rw [hW0]
  simpa using h
 have k1 : Blk W0 (w.heap.size + 1) 3 [.int .i64 (nx : Int)] := by
  have h := (Blk.new (w.alloc (.cells #[.pointer (some ⟨ab, 0, none⟩)] 228)) 3 [.int .i64 (nx : Int)]).alloc (.cells #[.slice A l.length cap] 161)
  rw [hW0]
  simpa using h
 have k0 : Blk W0 w.heap.size 228 [.pointer (some ⟨ab, 0, none⟩)] := by
  rw [hW0]
  exact ((Blk.new w 228 [.pointer (some ⟨ab, 0, none⟩)]).alloc _).alloc _
 have I0 : Hid (IA l B ab v T M nx A cap w [] W0) := ⟨k0, k1, k2, But.of_below hB0, v, T, ha.on (S := fun _ => False) (But.of_below hB0) (fun _ h => h.elim), RowTo.refl _ _, fun n hn => .inl hn⟩
 have HAV := Lib.hid ha
 have ST : Hid (SeqStopsK Fence.wide 2 Tryz.prog 216 #[.pointer (some ⟨w.heap.size + 2, 0, none⟩)] (encB (n := l.length) Cs) (KpB B (w.heap.size + 2)) (fun ys => ys = bk l.length 0) (fun _ => True) l.length W0) := fun lc J Jx W hW hJ _ hY h0 => by
  have hkk : ∀ q : Addr, q.block < W0.heap.size → W.cell? q = W0.cell? q := fun q hq => hW.cell hq
  rcases Nat.eq_zero_or_pos l.length with hz | hz
  ·exact backward1_in 2 (by omega) lc B (w.heap.size + 2) 0 cap l.length (by omega) Cs (fun j hj => by omega) (fun h => by omega) J Jx W hY (by have := hW.size; omega) A (fun h => by omega) ((hkk _ (by show _ + 2 < _; omega)).trans (k2.cell 0)) (fun j hj => by omega) h0
  ·obtain ⟨⟨g, hg, hTg, _⟩, _⟩ := hCs 0 hz
   have hgB := hTT g hTg
   refine backward1_in 2 (by omega) lc B (w.heap.size + 2) g cap l.length (by omega) Cs (fun j hj => (hCs j hj).2.len.1) (fun _ => hgB) J Jx W hY (by have := hW.size; omega) A (fun _ => hg) ((hkk _ (by show _ + 2 < _; omega)).trans (k2.cell 0)) (fun j hj i u hu => ?_) h0
   obtain ⟨⟨g', hg', _, hr⟩, _⟩ := hCs j hj
   rw [hg] at hg'
   cases hg'
   exact (hkk _ (by show g < _; omega)).trans ((hB0.cell (p := ⟨g, _, none⟩) (by show g < _; omega)).trans (hr i u hu))
 have HCS := Lib.hid hCs
 have HH := Lib.hid H
 have HTT := Lib.hid hTT
 have HRM : Hid (∀ pre (x : Fin l.length), pre.length < l.length → (fA l M nx pre).2.length + 50000 * wF l[x] ≤ 900000000 ∧ (fA l M nx pre).1 ≤ 1000000000) := fun pre x hp => alt_room l M nx pre x hp hw hM hnx
 have HALL := Lib.hid (fA_all l M nx)
 clear ha hfs hCs H hTT k0 k1 k2 hw hM hnx hl
 refine callsIn_of_wp_marks Tryz.func207 rfl trivial ?_ rfl
 simp only [Tryz.ntmps207, List.size_toArray, List.length_cons, List.length_nil, Nat.reduceAdd, Nat.reduceSub, Array.replicate_succ, Array.replicate_zero, List.push_toArray, List.append_toArray, List.nil_append, List.cons_append]
 gi_wp2_with (refine ⟨trivial, ?_⟩; gi_at_call 212; with_reducible refine (callsIn_wide.2 (backward_any _ _ _ _)).mono ?_; rintro e w' ⟨rfl, rfl⟩)
 rw [← hW0]
 clear hW0
 refine wpIn_rangeFunc_ownH rfl (by omega) (gf := 216) (lb := #[.pointer (some ⟨w.heap.size + 2, 0, none⟩)]) rfl trivial (enters_of Tryz.func216 (by kernel_rfl) rfl)
  ST.out (fun h k => h.trans k) (fun W l o o' hl h hc _ => ⟨belowK_b (w := W0) (n₀ := B) (by omega) W l o o' hl h hc ‹_›, World.putObj_heap_other (by omega)⟩) (Below.refl _ _) (fun _ => rfl)
  (fun pre W => IA l B ab v T M nx A cap w pre W)
  (fun cc pre W => False)
  (fun s A B row h hg hr => h.kept hg (fun r e => ⟨by have := (hr r e).1; omega, (hr r e).2⟩))
  (fun _ _ _ _ _ hs _ _ => hs)
  I0.out
  (fun x a' W => ∃ Bx, Blk W Bx 164 (Cs x.1) ∧ a' = { tmps := #[.pointer (some ⟨ab, 0, none⟩), .slice A l.length cap, .int .i64 (nx : Int), .pointer (some ⟨w.heap.size, 0, none⟩), undef, .pointer (some ⟨w.heap.size + 1, 0, none⟩), .int .i64 0, undef, .pointer (some ⟨Bx, 0, none⟩), .slice A l.length cap, .func (.func 216) #[] #[.pointer (some ⟨w.heap.size + 2, 0, none⟩)], .int .i64 (x.1 : Int), .agg (Cs x.1).toArray, undef, undef, undef, undef, undef], defers := [] })
  (fun x a' _ A B row hs hg hr => by
   obtain ⟨Bx, i2, i3⟩ := hs
   exact ⟨Bx, blk_kept i2 hg (fun r e => (hr r e).2), i3⟩)
  ?assign ?body ?done ?stop
 case assign =>
  rintro lc pre x W K hI hK
  have HI := Lib.hid hI
  have HL := Lib.hid (HCS.out x.1 x.2).2.len
  have hK' : Hid _ := Lib.hid hK
  clear hI hK
  dsimp only [encB]
  generalize Cs x.1 = C at *
  simp only [List.zip_toArray, List.zip_cons_cons, List.zip_nil_right, List.zip_nil_left, List.foldl_toArray', List.foldl_toArray, List.foldl_cons, List.foldl_nil, List.size_toArray, List.length_cons, List.length_nil, Nat.reduceAdd, List.setIfInBounds_toArray, List.set_cons_succ, List.set_cons_zero]
  refine wpIn_region_lit ?_
  refine wpListIn_alloc_abs (o := ⟨some 8, .alloc 164, _, _, _, _⟩) rfl 164 rfl (facL none_ (.slice none 0 0) false 0 0) zero47 ?_
  intro g1 w1 e1 k1 q1 b1 s1
  refine wpListIn_store_abs (o := ⟨_, .store 164 (.tmp 8) (.tmp 12), _, _, _, _⟩) rfl 164 _ _ rfl rfl g1 C rfl rfl 164 (facL none_ (.slice none 0 0) false 0 0) k1.out 260 size47 HL.out.1 (facL_len _ _ _ _ _) HL.out.2 ?_
  intro w2 k2 q2 b2 s2
  refine wpListIn_nil ?_
  exact hK'.out _ _ (KeepsOthers.from (q1.out.trans q2.out) _) ⟨(b1.out.mono (by have := HI.out.b2.lt; omega)).trans (b2.out.below (by have := HI.out.b2.lt; have := s1.out; have := e1.out; omega) (fun n hn => by have := HI.out.b2.lt; have := e1.out; omega)), (b2.out.block _ (by have := HI.out.b2.lt; have := s1.out; have := e1.out; omega) (fun hn => by have := HI.out.b2.lt; have := e1.out; omega)).trans (b1.out.block _ (by have := HI.out.b2.lt; omega))⟩ (HI.out.fresh (b1.out) (q1.out) b2.out q2.out e1.out) ⟨g1, k2.out, rfl⟩
 case body =>
  rintro lc pre x a' W hl0 _ hI ⟨Bx, hB, rfl⟩ hlt
  obtain ⟨v1, T1, ha1, hr1, ht1⟩ := hI.aut
  have HRO := Lib.hid (HRM.out pre x hlt)
  have HPE := HCS.out x.1 x.2
  have HL := Lib.hid HPE.2.len
  have HBX := Lib.hid hB
  have hWs := hI.but.size
  have hc0 : W.cell? ⟨w.heap.size, 0, none⟩ = some (.pointer (some ⟨ab, 0, none⟩)) := hI.b0.cell 0
  have hc1 : W.cell? ⟨w.heap.size + 1, 0, none⟩ = some (.int .i64 ((fA l M nx pre).1 : Nat)) := hI.b1.cell 0
  have PW : PeV W TT (Cs x.1) l[x] := PeV.keep (fun _ h => h) (fun g j hg => (hI.but.cell (p := ⟨g, j, none⟩) (by have := HTT.out g hg; show g < _; omega) (fun hs => by
   have := HTT.out g hg
   rcases hs with hs | hs
   ·have hs : g = ab := hs
    omega
   ·have := (HAV.out.rowLt g hs.symm).1
    omega))) HPE.2
  have CF := Lib.hid (HH.out l[x] (List.getElem_mem _) B ab v1 T1 (fA l M nx pre).2 (fA l M nx pre).1 (Cs x.1) W TT ha1 PW HTT.out HRO.out.2 HRO.out.1)
  have SP : Hid (∀ (w2 : World) (v2 : Value) (T2 : Nat → Prop), Aut w2 B ab v2 T2 (cF l[x] (fA l M nx pre).2 (fA l M nx pre).1).2 → But (AutS ab v1) W w2 → RowTo W v1 v2 → (∀ n, T2 n → T1 n ∨ W.heap.size ≤ n) → _) := fun w2 v2 T2 h1 h2 h3 h4 => hI.step (w2 := w2) (x := x) hT (by omega) hab ha1 hr1 ht1 h1 h2 h3 h4
  clear hI ha1 hr1 ht1 PW HPE hB
  gi_wp2_with (first
   | ((with_reducible refine wpListIn_load_abs (o := ⟨_, .load 164 (.tmp 8), _, _, _, _⟩) rfl 164 _ rfl Bx 0 ?_ (Cs x.1) HBX.out.range _ Tryz.underlying164 rfl 260 size47 HL.out.1 ?_); (· rfl))
   | (refine ⟨trivial, ?_⟩; gi_at_call 213; refine (CallsIn.inRound lc (callsIn_wide.2 CF.out)).mono ?_; rintro e w2 ⟨rfl, v2, T2, a2, b2, r2, t2⟩; obtain ⟨hc2, hf2, hk2, hkp2, hI2⟩ := SP.out w2 v2 T2 a2.out b2.out r2.out t2.out))
  exact ⟨hk2.from _, hkp2, hI2⟩
 case done =>
  rintro D ys W hD hys hI hK
  subst hys
  obtain ⟨v1, T1, ha1, hr1, ht1⟩ := hI.aut
  have hc1 : W.cell? ⟨w.heap.size + 1, 0, none⟩ = some (.int .i64 ((fA l M nx (bk l.length 0)).1 : Nat)) := hI.b1.cell 0
  have hnc : ∀ r, some D = some r → ∃ o : Obj, W.heap[r]? = some o ∧ o.isCells = false := fun r e => by cases e; exact ⟨_, hK, rfl⟩
  have hg := grownBy_putObj' W D (.deferred none)
  have HP : Hid (AutP ab B v T w (cA l M nx).1 (cA l M nx).2 (.returned (.int .i64 ((cA l M nx).1 : Nat))) (W.putObj D (.deferred none))) := by
   rw [HALL.out] at ha1
   exact ⟨rfl, v1, T1, ha1.kept hg hnc, hI.but.grown hg (fun k e hk => by cases e; omega), hr1, fun n hn => (ht1 n hn).imp id (fun h => by omega)⟩
  rw [HALL.out] at hc1
  clear hI ha1 hr1 ht1
  gi_wp2
  refine ⟨by simp, .inl ⟨_, _, rfl, run_takeDeferred hK, ?_⟩⟩
  refine ⟨_, results_tmp (t := 6) rfl _ _ _, ?_⟩
  exact HP.out
 case stop =>
  rintro D c pre W _ _ h _
  exact h.elim
theorem alt_any (l : List Pe) (H : ∀ p ∈ l, Fac81 p) (hw : wA l ≤ 200) : Alt73 l := fun B ab v T M nx A cap w TT ha hfs hTT hnx hM => callsIn_wide.1 (alt_in l H hw B ab v T M nx A cap w TT ha hfs hTT hnx hM)
theorem fac_of (p : Pe) (H : Atom86 p) : Fac81 p := by
 cases h : p.rp with
 | one => exact factor_one p h H
 | opt => exact factor_opt p h H
 | star => exact factor_star p h H
 | plus => exact factor_plus p h H
mutual
theorem fac_all : ∀ (p : Pe), wF p ≤ 200 → Fac81 p
 | .byte c r, _ => fac_of _ (atom_byte_ c r)
 | .cls f r, _ => fac_of _ (atom_cls_ f r)
 | .sub e r, h => fac_of _ (atom_sub_ e r (expr_any e (alts_all e (by rw [wF] at h; omega))))
theorem facs_all : ∀ (l : List Pe), wA l ≤ 200 → ∀ p ∈ l, Fac81 p
 | [], _ => fun p hp => by cases hp
 | q :: l, h => List.forall_mem_cons.2 ⟨fac_all q (by rw [wA] at h; omega), facs_all l (by rw [wA] at h; omega)⟩
theorem alts_all : ∀ (e : List (List Pe)), wE e ≤ 200 → ∀ a ∈ e, Alt73 a
 | [], _ => fun a ha => by cases ha
 | b :: e, h => List.forall_mem_cons.2 ⟨alt_any b (facs_all b (by rw [wE] at h; omega)) (by rw [wE] at h; omega), alts_all e (by rw [wE] at h; omega)⟩
end
/-- **expression of the automaton, at every expression of no more than 200 states.** -/
theorem expr_all (x : List (List Pe)) (h : wE x ≤ 200) : Expr65 x := expr_any x (alts_all x h)
end Go.Proofs.YtdeppcddknakjaaGreatDoor.Rx
namespace Go.Proofs.YtdeppcddknakjaaGreatDoor.Rx
open Go.RowKit
/-- A program in memory: its states lie in T. -/
def PgV (w : World) (T : Nat → Prop) (v : Value) (M : List Nd) : Prop := ∃ g cap, v = .slice (some ⟨g, 0, none⟩) M.length cap ∧ T g ∧ ∀ j (h : j < M.length), ∃ u, w.cell? ⟨g, j, none⟩ = some u ∧ NdV w T u M[j]
theorem PgV.keep {w w' : World} {T T' : Nat → Prop} {v : Value} {M : List Nd} (h : PgV w T v M) (hT : ∀ k, T k → T' k) (hk : ∀ b j, T b → w'.cell? ⟨b, j, none⟩ = w.cell? ⟨b, j, none⟩) : PgV w' T' v M := by
 obtain ⟨g, cap, h1, h2, h3⟩ := h
 refine ⟨g, cap, h1, hT g h2, fun j hj => ?_⟩
 obtain ⟨u, h4, h5⟩ := h3 j hj
 exact ⟨u, (hk g j h2).trans h4, h5.keep hT hk⟩
theorem Aut.pg {w : World} {B ab : Nat} {v : Value} {T : Nat → Prop} {M : List Nd} (h : Aut w B ab v T M) (h0 : 0 < M.length) : PgV w (fun n => T n ∨ some n = v.ownBlock) v M := by
 obtain ⟨xs, hr, hn⟩ := h.row
 obtain ⟨g, cap, cur, rfl, h1, h2, h3, h4⟩ := h.form h0
 refine ⟨g, cap, rfl, .inr rfl, fun j hj => ?_⟩
 obtain ⟨u, hu, hv⟩ := hn.2 j hj
 have hc := World.ownsRow.cells (g := g) hr rfl j u hu
 rw [Addr.add_mid, Nat.zero_add] at hc
 exact ⟨u, hc, hv.keep (fun _ h => .inl h) (fun _ _ _ => rfl)⟩
set_option maxHeartbeats 4000000 in
set_option maxRecDepth 100000 in
theorem compile_any (x : List (List Pe)) (h : wE x ≤ 200) (u : Value) (w : World) (TT : Nat → Prop) (hu : ExV w TT u x) (hTT : ∀ n, TT n → n < w.heap.size) :
  Calls Tryz.prog 180 #[u] w fun e w' => ∃ v, e = .returned (.agg #[v, .int .i64 ((ps x : Nat) : Int)]) ∧ Hid (PgV w' (Fresh w w') v (pm x)) ∧ Hid (Below w.heap.size w w') := by
 obtain ⟨W0, hW0⟩ : ∃ W0, W0 = (w.alloc (.cells #[.slice none 0 0, .int .i64 0] 181)).alloc (.cells #[.slice none 0 0, .int .i64 0] 181) := ⟨_, rfl⟩
 have hsz : W0.heap.size = w.heap.size + 2 := by rw [hW0]; simp
 have hB0 : Below w.heap.size w W0 := by rw [hW0]; exact ((Below.refl _ w).alloc (Nat.le_refl _) _).alloc (by simp) _
 have k0 : Blk W0 w.heap.size 181 [.slice none 0 0, .int .i64 0] := by rw [hW0]; exact (Blk.new w 181 [.slice none 0 0, .int .i64 0]).alloc _
 have k1 : Blk W0 (w.heap.size + 1) 181 [.slice none 0 0, .int .i64 0] := by
  have h := Blk.new (w.alloc (.cells #[.slice none 0 0, .int .i64 0] 181)) 181 [.slice none 0 0, .int .i64 0]
  rw [World.size_alloc] at h
  rw [hW0]
  exact h
 have A0 : Aut W0 (w.heap.size + 1) (w.heap.size + 1) (.slice none 0 0) (fun _ => False) [] := ⟨⟨0, k1⟩, Nat.le_refl _, ⟨[], World.ownsRow_nil _ _ _ _, NdsL.nil _ _⟩, fun _ h => h.elim⟩
 have CA := Lib.hid (add_any_ (w.heap.size + 1) (w.heap.size + 1) (.slice none 0 0) (.func (.func 196) #[] #[]) (fun _ => False) (fun _ => False) [] .fin W0 A0 rfl (fun _ h => h.elim) (by simp))
 have CE : Hid (∀ w1 v1 T1, Aut w1 (w.heap.size + 1) (w.heap.size + 1) v1 T1 [Nd.fin] → But (AutS (w.heap.size + 1) (.slice none 0 0)) W0 w1 → Calls Tryz.prog 194 #[.pointer (some ⟨w.heap.size + 1, 0, none⟩), u, .int .i64 0] w1 (AutP (w.heap.size + 1) (w.heap.size + 1) v1 T1 w1 (ps x) (pm x))) := fun w1 v1 T1 a1 b1 =>
  expr_all x h (w.heap.size + 1) (w.heap.size + 1) v1 T1 [Nd.fin] 0 u w1 TT a1 (hu.keep (fun _ h => h) (fun g j hg => by
   have hlt := hTT g hg
   exact (b1.cell (p := ⟨g, j, none⟩) (by show g < _; omega) (fun hs => by
    rcases hs with hs | hs
    ·have hs : g = w.heap.size + 1 := hs
     omega
    ·cases hs)).trans (hB0.cell (p := ⟨g, j, none⟩) hlt))) (fun n hn => by have := hTT n hn; omega) (by omega) (by simp; omega)
 have HPL := Lib.hid (pm_len x)
 have K0 := Lib.hid k0
 have HB0 := Lib.hid hB0
 clear hu hTT k0 k1 A0 hB0
 go_enter Tryz.func180, Tryz.ntmps180
 go_wp2_with (first
  | (go_at_call 195; rw [← hW0]; (with_reducible refine CA.out.mono ?_); rintro e w1 ⟨rfl, v1, a1, b1, r1⟩)
  | (go_at_call 194; (with_reducible refine (CE.out w1 v1 _ a1.out b1.out).mono ?_); rintro e w2 ⟨rfl, v2, T2, a2, b2, r2, t2⟩; obtain ⟨xs2, hr2, hn2⟩ := a2.out.row; obtain ⟨A2, cp2, rfl⟩ := own_form hr2; clear hr2 hn2; obtain ⟨n2, hb2⟩ := a2.out.blk; have c0 : w2.cell? ⟨w.heap.size + 1, 0, none⟩ = some (.slice A2 (pm x).length cp2) := hb2.cell 0; have c1 : w2.cell? ⟨w.heap.size + 1, 1, none⟩ = some (.int .i64 n2) := hb2.cell 1; have f1 := hb2.froz 1; have K2 : Hid (Blk w2 w.heap.size 181 [.slice none 0 0, .int .i64 0]) := (K0.out.but b1.out (fun hs => by rcases hs with hs | hs; (have hs : w.heap.size = w.heap.size + 1 := hs; omega); (cases hs))).but b2.out (fun hs => by rcases hs with hs | hs; (have hs : w.heap.size = w.heap.size + 1 := hs; omega); (have := (a1.out.rowLt _ hs.symm).1; omega)); have d0 : w2.cell? ⟨w.heap.size, 0, none⟩ = some (.slice none 0 0) := K2.out.cell 0; have d1 : w2.cell? ⟨w.heap.size, 1, none⟩ = some (.int .i64 0) := K2.out.cell 1; have g0 := K2.out.froz 0; have g1 := K2.out.froz 1; have H2 := Lib.hid hb2; clear hb2))
 have KF : Hid (Blk (((w2.setCell ⟨w.heap.size + 1, 1, none⟩ (.int .i64 ((ps x : Nat) : Int))).setCell ⟨w.heap.size, 0, none⟩ (.slice A2 (pm x).length cp2)).setCell ⟨w.heap.size, 1, none⟩ (.int .i64 ((ps x : Nat) : Int))) w.heap.size 181 [.slice A2 (pm x).length cp2, .int .i64 ((ps x : Nat) : Int)]) := ((K2.out.setOther (p := ⟨w.heap.size + 1, 1, none⟩) (by show _ + 1 ≠ _; omega) _).set 0 _).set 1 _
 have BF : Hid (But (fun n => n = w.heap.size ∨ n = w.heap.size + 1) w2 (((w2.setCell ⟨w.heap.size + 1, 1, none⟩ (.int .i64 ((ps x : Nat) : Int))).setCell ⟨w.heap.size, 0, none⟩ (.slice A2 (pm x).length cp2)).setCell ⟨w.heap.size, 1, none⟩ (.int .i64 ((ps x : Nat) : Int)))) := ((But.setCell (But.refl _ _) (p := ⟨w.heap.size + 1, 1, none⟩) (fun _ => .inr rfl) _).setCell (p := ⟨w.heap.size, 0, none⟩) (fun _ => .inl rfl) _).setCell (p := ⟨w.heap.size, 1, none⟩) (fun _ => .inl rfl) _
 have BA : Hid (Below w.heap.size w w2) := (HB0.out.trans ((b1.out.below (by omega) (fun n hs => by rcases hs with hs | hs; (have hs : n = w.heap.size + 1 := hs; omega); (cases hs))))).trans (b2.out.below (by have := b1.out.size; omega) (fun n hs => by rcases hs with hs | hs; (have hs : n = w.heap.size + 1 := hs; omega); (have := (a1.out.rowLt _ hs.symm).1; omega)))
 have TS : Hid (∀ n, (T2 n ∨ some n = (Value.slice A2 (pm x).length cp2).ownBlock) → w.heap.size + 2 ≤ n ∧ n < w2.heap.size) := fun n hn => by
  rcases hn with hn | hn
  ·have h1 := a2.out.sub n hn
   rcases t2.out n hn with h2 | h2
   ·rcases h2 with h2 | h2 <;> exact h2.elim
   ·exact ⟨by have := b1.out.size; omega, h1.2.1⟩
  ·have h1 := a2.out.rowLt n hn.symm
   refine ⟨?_, h1.2⟩
   have hne : n ≠ w.heap.size + 1 := fun e => a2.out.ne (by rw [← e]; exact hn)
   omega
 have PG := Lib.hid (a2.out.pg (by rw [HPL.out]; omega))
 clear a2 b2 r2 t2 a1 b1 r1 CA CE hW0 c0 c1 f1 d0 d1 g0 g1
 generalize (((w2.setCell ⟨w.heap.size + 1, 1, none⟩ (.int .i64 ((ps x : Nat) : Int))).setCell ⟨w.heap.size, 0, none⟩ (.slice A2 (pm x).length cp2)).setCell ⟨w.heap.size, 1, none⟩ (.int .i64 ((ps x : Nat) : Int))) = w3 at *
 refine bodyPost_ret (results_cell_row rfl _ _ w.heap.size 181 #[.slice A2 (pm x).length cp2, .int .i64 ((ps x : Nat) : Int)] (0, 0) _ rfl (show w3.heap[w.heap.size]? = some (.cells #[.slice A2 (pm x).length cp2, .int .i64 ((ps x : Nat) : Int)] 181 (0, 0)) from KF.out) Tryz.underlying181 rfl (by kernel_rfl)) rfl ?_
 refine ⟨_, rfl, PG.out.keep (fun n hn => ⟨by have := (TS.out n hn).1; omega, Nat.lt_of_lt_of_le (TS.out n hn).2 BF.out.size⟩) (fun g j hg => BF.out.cell (p := ⟨g, j, none⟩) (TS.out g hg).2 (fun hs => by have := (TS.out g hg).1; have hs : g = w.heap.size ∨ g = w.heap.size + 1 := hs; omega)), BA.out.trans (BF.out.below (by have := BA.out.size; omega) (fun n hn => by omega))⟩

end Go.Proofs.YtdeppcddknakjaaGreatDoor.Rx
