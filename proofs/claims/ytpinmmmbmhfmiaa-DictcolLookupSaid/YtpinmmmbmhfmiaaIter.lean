/- The iterator encodingBytes: what it hands over, round by round. -/
import Derived.RangeFuncNested
import Derived.RangeFuncBound
import Derived.RangeFuncCalls
import Derived.RangeFuncLeaves
import Derived.RangeFuncBox
import Derived.Shelf.Abstract
import Derived.Shelf.RegionOpen
import Derived.WalkKit
import Derived.OwnWalkIn
import Derived.TacticsInMore
import Derived.LoopNIn
import Derived.LoopIn
import Derived.Lib.Hide
import Derived.Test.YtpinmmmbmhfmiaaProg
namespace Go.Proofs.Ytpinmmmbmhfmiaa
open Go.RowKit Go.Shelf

attribute [local go_sem] Oper.semAt_some

/-- An index and a byte. -/
abbrev IB := { p : Nat × UInt8 // p.1 < 4294967296 }
/-- The first k of them. -/
def upto (s : ByteArray) (k : Nat) : List IB := (List.range k).map fun j => ⟨(j % 4294967296, s.data.toList[j]?.getD 0), Nat.mod_lt _ (by decide)⟩
theorem upto_succ (s : ByteArray) {k : Nat} (hs : s.size ≤ 4294967000) (h : k < s.size) : upto s (k + 1) = upto s k ++ [⟨(k, s[k]), show k < 4294967296 by omega⟩] := by
  have e1 : k % 4294967296 = k := Nat.mod_eq_of_lt (by omega)
  have e2 : s.data.toList[k]?.getD 0 = s[k] := by
    rw [List.getElem?_eq_getElem (by simpa using h)]; rfl
  simp only [upto, List.range_succ, List.map_append, List.map_cons, List.map_nil, e1, e2]
theorem upto_length (s : ByteArray) (k : Nat) : (upto s k).length = k := by simp [upto]
/-- All has come: all of the string, or the bytes up to one below 128. -/
def AllOf (s : ByteArray) (ys : List IB) : Prop := ∃ k, k ≤ s.size ∧ ys = upto s k ∧ (k = s.size ∨ ∃ x ∈ ys, x.1.2.toNat < 128)
def PartOf (s : ByteArray) (ys : List IB) : Prop := ∃ k, k ≤ s.size ∧ ys = upto s k
abbrev encIB (x : IB) : Array Value := #[.int .i64 (x.1.1 : Int), .int .u8 (x.1.2.toNat : Int)]

set_option maxRecDepth 100000 in
set_option maxHeartbeats 2000000 in
theorem bytes1_in (F : Fence) (n : Nat) (h41 : F.fn 111) (hro : F.round = none) (hn : 1 ≤ n) (l Bs : Nat) (s : ByteArray) (hs : s.size ≤ 4294967000) (J Jx : List IB → World → Prop)
    (hY : ∀ pre x W, J pre W → pre.length < s.size → YieldAt F (n - 1) Try.prog l (encIB x) W fun e W' =>
      (e = .returned (.bool true) ∧ J (pre ++ [x]) W' ∧ W'.cell? ⟨Bs, 0, none⟩ = W.cell? ⟨Bs, 0, none⟩) ∨ (e = .returned (.bool false) ∧ Jx (pre ++ [x]) W'))
    (W : World) (hBs : W.cell? ⟨Bs, 0, none⟩ = some (.string s)) (h0 : J [] W) :
    CallsIn F n Try.prog 111 #[.func (.yield l) #[] #[], .pointer (some ⟨Bs, 0, none⟩)] W fun e W' => (∃ v, e = .returned v) ∧
      ((∃ ys, AllOf s ys ∧ J ys W') ∨ (∃ pre, PartOf s pre ∧ Jx pre W')) := by
  refine callsIn_of_wp Try.func111 rfl h41 ?_ hro
  simp only [Try.ntmps111, List.size_toArray, List.length_cons, List.length_nil, Nat.reduceAdd, Nat.reduceSub, Array.replicate_succ, Array.replicate_zero, List.push_toArray, List.append_toArray, List.nil_append, List.cons_append]
  gi_wp2
  gi_loopw [3] (fun i wr => ∃ k : Nat, k ≤ s.size ∧ i = .int .i64 k ∧ J (upto s k) wr ∧ wr.cell? ⟨Bs, 0, none⟩ = some (.string s))
    (fun i _ => s.size - (intOf i).toNat)
  case atStart => exact ⟨0, Nat.zero_le _, rfl, h0, hBs⟩
  case round =>
    obtain ⟨k, hk, rfl, hJs, hcx⟩ := hrel
    by_cases hlt : k < s.size
    · have hU := Lib.hid (upto_succ s hs hlt)
      obtain ⟨fn, tmps, assign, body, hy, hR⟩ := hY _ ⟨(k, s[k]), show k < 4294967296 by omega⟩ wr hJs (by rw [upto_length]; exact hlt)
      dsimp only [encIB] at hy
      gi_wp2
      refine hR.mono ?_
      rintro e W3 (⟨rfl, hJ3, hk3⟩ | ⟨rfl, hJx3⟩)
      · have hcx3 := hk3.trans hcx
        clear hk3
        by_cases hb : s[k].toNat < 128
        · gi_wp2
          refine bodyPost_ret (results_none rfl _ _ _) rfl ?_
          exact ⟨⟨_, rfl⟩, .inl ⟨_, ⟨k + 1, hlt, rfl, .inr ⟨⟨(k, s[k]), show k < 4294967296 by omega⟩, by rw [hU.out]; simp, hb⟩⟩, by rw [hU.out]; exact hJ3⟩⟩
        · gi_wp2
          go_roundw
          case rel => exact ⟨k + 1, by omega, by go_num, by rw [hU.out]; exact hJ3, hcx3⟩
          case measure => simp [intOf]; omega
      · gi_wp2
        refine bodyPost_ret (results_none rfl _ _ _) rfl ?_
        exact ⟨⟨_, rfl⟩, .inr ⟨_, ⟨k + 1, hlt, rfl⟩, by rw [hU.out]; exact hJx3⟩⟩
    · obtain rfl : k = s.size := by omega
      gi_wp2
      go_end0
      exact ⟨⟨_, rfl⟩, .inl ⟨_, ⟨_, Nat.le_refl _, rfl, .inl rfl⟩, hJs⟩⟩

set_option maxHeartbeats 1000000 in
/-- encodingBytes: the string is boxed; the function value captures the box. -/
theorem bytes_in (F : Fence) (n : Nat) (h40 : F.fn 99) (hro : F.round = none) (s : ByteArray) (w : World) :
    CallsIn F n Try.prog 99 #[.string s] w fun e w' => e = .returned (.func (.func 111) #[] #[.pointer (some ⟨w.heap.size, 0, none⟩)]) ∧ w' = w.alloc (.cells #[.string s] 9) := by
  refine callsIn_of_wp Try.func99 rfl h40 ?_ hro
  simp only [Try.ntmps99, List.size_toArray, List.length_cons, List.length_nil, Nat.reduceAdd, Nat.reduceSub, Array.replicate_succ, Array.replicate_zero, List.push_toArray, List.append_toArray, List.nil_append, List.cons_append]
  gi_wp2
  go_ret
  exact ⟨rfl, rfl⟩

theorem bytes_stops (F : Fence) (n : Nat) (h41 : F.fn 111) (hro : F.round = none) (hn : 1 ≤ n) (Bs : Nat) (s : ByteArray) (hs : s.size ≤ 4294967000) (w : World) (hBs : Bs < w.heap.size)
    (hc : w.cell? ⟨Bs, 0, none⟩ = some (.string s)) :
    SeqStopsK F n Try.prog 111 #[.pointer (some ⟨Bs, 0, none⟩)] encIB (fun W W' => W'.cell? ⟨Bs, 0, none⟩ = W.cell? ⟨Bs, 0, none⟩) (AllOf s) (PartOf s) s.size w := fun l J Jx W hW _ _ hY h0 =>
  bytes1_in F n h41 hro hn l Bs s hs J Jx hY W ((hW.cell (p := ⟨Bs, 0, none⟩) hBs).trans hc) h0
end Go.Proofs.Ytpinmmmbmhfmiaa
