/- Layer 9: the iterator over the runs of a list. -/
import Derived.RangeFuncNested
import Derived.RangeFuncBound
import Derived.RangeFuncCalls
import Derived.RangeFuncLeaves
import Derived.RangeFuncBox
import Derived.Maps.AppendAt
import Derived.Maps.OwnIn
import Derived.Shelf.Abstract
import Derived.Shelf.RegionOpen
import Derived.WalkKit
import Derived.OwnWalkIn
import Derived.TacticsInMore
import Derived.LoopNIn
import Derived.LoopIn
import Derived.Test.YtmeekciclfgkkaaDcC
set_option linter.unusedVariables false
set_option linter.unusedSimpArgs false
namespace Go.Proofs.Ytmeekciclfgkkaa.Dc
open Go.RowKit Go.Shelf

attribute [local go_sem] Oper.semAt_some

/-- A number and how many times it stands there, both small. -/
abbrev RE := { p : Int × Nat // (-1152921504606846976 ≤ p.1 ∧ p.1 ≤ 1152921504606846976) ∧ p.2 ≤ 1152921504606846976 }
abbrev encR (x : RE) : Array Value := #[.int .i64 x.1.1, .int .i64 (x.1.2 : Int)]
def vals (l : List RE) : List (Int × Nat) := l.map (·.1)
theorem vals_snoc (l : List RE) (x : RE) : vals (l ++ [x]) = vals l ++ [x.1] := by unfold vals; rw [List.map_append]; rfl
theorem vals_length (l : List RE) : (vals l).length = l.length := List.length_map ..
/-- From st on, up to k, it is x. -/
def Seg (zs : List Int) (st k : Nat) (x : Int) : Prop := ∀ i, st ≤ i → i < k → zs[i]?.getD 0 = x
theorem Seg.more {zs : List Int} {st k : Nat} {x y : Int} (h : Seg zs st k x) (h2 : st < k → zs[k]?.getD 0 = x) (hy : zs[k]?.getD 0 = y) (hk : st ≤ k) : Seg zs st (k + 1) y := by
  intro i h3 h4
  by_cases e : i = k
  · rw [e]; exact hy
  · have h5 : i < k := by omega
    rw [h i h3 h5, ← h2 (by omega), hy]
theorem run_end {zs : List Int} {st k : Nat} {x : Int} (hs : st ≤ k) (hk : k < zs.length) (h : Seg zs st (k + 1) x) (hn : k + 1 < zs.length → zs[k + 1]?.getD 0 ≠ x) : rle (zs.drop st) = (x, k - st + 1) :: rle (zs.drop (k + 1)) := by
  have e : zs.drop st = List.replicate (k - st + 1) x ++ zs.drop (k + 1) := by
    apply List.ext_getElem?
    intro j
    rw [List.getElem?_drop]
    by_cases hj : j < k - st + 1
    · rw [List.getElem?_append_left (by simpa using hj), List.getElem?_replicate, if_pos hj]
      have := h (st + j) (by omega) (by omega)
      rw [List.getElem?_eq_getElem (by omega)] at this ⊢
      exact congrArg some this
    · rw [List.getElem?_append_right (by simpa using hj), List.length_replicate, List.getElem?_drop]
      congr 1
      omega
  rw [e]
  refine rle_first x _ (fun y hy => ?_) _
  by_cases hlt : k + 1 < zs.length
  · rw [List.head?_drop, List.getElem?_eq_getElem hlt] at hy
    have := hn hlt
    rw [List.getElem?_eq_getElem hlt] at this
    cases hy
    exact this
  · rw [List.drop_eq_nil_of_le (by omega)] at hy
    cases hy
/-- What a round keeps: the list's block, and the box's. -/
def KK (b1 b2 : Nat) (W W' : World) : Prop := W'.heap[b1]? = W.heap[b1]? ∧ W'.heap[b2]? = W.heap[b2]?
theorem KK.trans {b1 b2 : Nat} {A B C : World} (h : KK b1 b2 A B) (k : KK b1 b2 B C) : KK b1 b2 A C := ⟨k.1.trans h.1, k.2.trans h.2⟩
theorem KK.cell1 {b1 b2 : Nat} {A B : World} (h : KK b1 b2 A B) (o : Nat) : B.cell? ⟨b1, o, none⟩ = A.cell? ⟨b1, o, none⟩ := World.cell?_of_block h.1
theorem KK.cell2 {b1 b2 : Nat} {A B : World} (h : KK b1 b2 A B) (o : Nat) : B.cell? ⟨b2, o, none⟩ = A.cell? ⟨b2, o, none⟩ := World.cell?_of_block h.2
theorem KK.put {b1 b2 : Nat} {W : World} {l : Nat} {o : Obj} (h1 : b1 ≠ l) (h2 : b2 ≠ l) : KK b1 b2 W (W.putObj l o) := ⟨World.putObj_heap_other h1, World.putObj_heap_other h2⟩
/-- The list, by its block and its box. -/
structure Lies (b1 b2 o c : Nat) (a : Option Addr) (zs : List Int) (V : World) : Prop where
  box : V.cell? ⟨b2, 0, none⟩ = some (.slice a zs.length c)
  at_ : 0 < zs.length → a = some ⟨b1, o, none⟩
  cells : ∀ j, j < zs.length → V.cell? ⟨b1, o + j, none⟩ = some (.int .i64 (zs[j]?.getD 0))
theorem Lies.kept {b1 b2 o c : Nat} {a : Option Addr} {zs : List Int} {V V' : World} (h : Lies b1 b2 o c a zs V) (k : KK b1 b2 V V') : Lies b1 b2 o c a zs V' :=
  ⟨(k.cell2 0).trans h.box, h.at_, fun j hj => (k.cell1 _).trans (h.cells j hj)⟩
/-- Between two rounds. -/
structure RunI (b1 b2 o c : Nat) (a : Option Addr) (zs : List Int) (J : List RE → World → Prop) (pre : List RE) (st k : Nat) (x : Int) (V : World) : Prop where
  lies : Lies b1 b2 o c a zs V
  le : st ≤ k
  seg : Seg zs st k x
  on : st < k → k < zs.length ∧ zs[k]?.getD 0 = x
  eq : rle zs = vals pre ++ rle (zs.drop st)
  j : J pre V
theorem run_lt {zs : List Int} {pre : List RE} {r : List (Int × Nat)} {p : Int × Nat} (h : rle zs = vals pre ++ p :: r) : pre.length < (rle zs).length := by
  rw [h, List.length_append, vals_length, List.length_cons]
  omega
theorem run_next {zs : List Int} {pre : List RE} {r : List (Int × Nat)} {p : Int × Nat} {x : RE} (h : rle zs = vals pre ++ p :: r) (hx : x.1 = p) : rle zs = vals (pre ++ [x]) ++ r := by
  rw [h, vals_snoc, hx]
  simp

set_option maxRecDepth 100000 in
set_option maxHeartbeats 4000000 in
theorem runs1_in (dp : Nat) (hn : 1 ≤ dp) (l b1 b2 o c : Nat) (a : Option Addr) (zs : List Int) (hl : zs.length ≤ 1000000) (hz : within 1152921504606846976 zs)
    (J Jx : List RE → World → Prop)
    (hY : ∀ pre x W, J pre W → pre.length < (rle zs).length → YieldAt Fence.wide (dp - 1) Try.prog l (encR x) W fun e W' =>
      (e = .returned (.bool true) ∧ J (pre ++ [x]) W' ∧ KK b1 b2 W W') ∨ (e = .returned (.bool false) ∧ Jx (pre ++ [x]) W'))
    (W : World) (hL : Lies b1 b2 o c a zs W) (h0 : J [] W) :
    CallsIn Fence.wide dp Try.prog 44 #[.func (.yield l) #[] #[], .pointer (some ⟨b2, 0, none⟩)] W fun e W' => (∃ v, e = .returned v) ∧
      ((∃ ys, vals ys = rle zs ∧ J ys W') ∨ (∃ pre, True ∧ Jx pre W')) := by
  have HY := Lib.hid hY
  have HW := Lib.hid hz
  have H0 : Hid (RunI b1 b2 o c a zs J [] 0 0 0 W) := ⟨hL, Nat.le_refl _, fun i h1 h2 => by omega, fun h => by omega, by simp [vals], h0⟩
  have hbx := hL.box
  clear hY hz hL h0
  refine callsIn_of_wp Try.func44 rfl trivial ?_ rfl
  simp only [Try.ntmps44, List.size_toArray, List.length_cons, List.length_nil, Nat.reduceAdd, Nat.reduceSub, Array.replicate_succ, Array.replicate_zero, List.push_toArray, List.append_toArray, List.nil_append, List.cons_append]
  gi_wp2
  clear hbx
  gi_loopw [3, 8] (fun vm vi wr => ∃ (m k st : Nat) (x : Int) (pre : List RE), m + st = k ∧ k ≤ zs.length ∧ vm = .int .i64 m ∧ vi = .int .i64 k ∧ Hid (RunI b1 b2 o c a zs J pre st k x wr))
    (fun _ vi _ => zs.length - (intOf vi).toNat)
  case atStart => exact ⟨0, 0, 0, 0, [], rfl, Nat.zero_le _, rfl, rfl, H0⟩
  case round =>
    clear H0
    obtain ⟨m, k, st, x, pre, hmk, hk, rfl, rfl, HS⟩ := hrel
    by_cases hlt : k < zs.length
    · obtain rfl := HS.out.lies.at_ (by omega)
      have hbx := HS.out.lies.box
      have hcell := HS.out.lies.cells k hlt
      have hx := HW.out.at hlt
      have HG : Hid (Seg zs st (k + 1) (zs[k]?.getD 0)) := HS.out.seg.more (fun h => (HS.out.on h).2) rfl HS.out.le
      have HE := Lib.hid (fun hn => run_end HS.out.le hlt HG.out hn)
      have hi : (k : Int) < zs.length := by omega
      obtain ⟨z, hzz⟩ : ∃ z, zs[k]?.getD 0 = z := ⟨_, rfl⟩
      rw [hzz] at hcell hx HG HE
      have HZ := Lib.hid hzz
      have hw1 : wrap64 ((m : Int) + 1) = ((m + 1 : Nat) : Int) := by unfold wrap64; omega
      have hw2 : wrap64 ((k : Int) + 1) = ((k + 1 : Nat) : Int) := by unfold wrap64; omega
      clear hzz
      have key : Hid ((k + 1 < zs.length → zs[k + 1]?.getD 0 ≠ z) → ∃ X : RE, X.1 = (z, m + 1) ∧ pre.length < (rle zs).length ∧ ∀ V, J (pre ++ [X]) V → KK b1 b2 wr V → RunI b1 b2 o c (some ⟨b1, o, none⟩) zs J (pre ++ [X]) (k + 1) (k + 1) 0 V) := Lib.hid fun hn => by
        have e := HE.out hn
        have hq := HS.out.eq
        rw [e, show k - st + 1 = m + 1 by omega] at hq
        exact ⟨⟨(z, m + 1), ⟨hx, by dsimp only; omega⟩⟩, rfl, run_lt hq, fun V hj hk => ⟨HS.out.lies.kept hk, Nat.le_refl _, fun i h1 h2 => by omega, fun h => by omega, run_next hq rfl, hj⟩⟩
      by_cases hlt2 : k + 1 < zs.length
      · have hcell2 := HS.out.lies.cells (k + 1) hlt2
        have hi2 : (k : Int) + 1 < zs.length := by omega
        by_cases hq : zs[k + 1]?.getD 0 = z
        · rw [hq] at hcell2
          have HN : Hid (RunI b1 b2 o c (some ⟨b1, o, none⟩) zs J pre st (k + 1) z wr) := ⟨HS.out.lies, by have := HS.out.le; omega, HG.out, fun _ => ⟨hlt2, hq⟩, HS.out.eq, HS.out.j⟩
          have hqq : (z == z) = true := by simp
          clear HS HG HE HY key hq hx
          gi_wp2
          go_roundw
          case rel => exact ⟨m + 1, k + 1, st, z, pre, by omega, by omega, by go_num, by go_num, HN⟩
          case measure => simp [intOf]; omega
        · obtain ⟨X, hX, hpl, hnext⟩ := key.out (fun _ => hq)
          obtain ⟨fn, tmps, assign, body, hy, hR⟩ := HY.out pre X wr HS.out.j hpl
          dsimp only [encR] at hy
          rw [hX] at hy
          dsimp only at hy
          rw [show ((m + 1 : Nat) : Int) = (m : Int) + 1 by omega] at hy
          have HR := Lib.hid hR
          have HN := Lib.hid hnext
          generalize zs[k + 1]?.getD 0 = y at *
          have hqq : (y == z) = false := by rw [beq_eq_false_iff_ne]; exact hq
          clear HS HG HE HY key hq hx hR hnext hX hpl
          gi_wp2
          refine HR.out.mono ?_
          rintro e W5 (⟨rfl, hj, hk5⟩ | ⟨rfl, hjx⟩)
          · have T3 := Lib.hid (HN.out W5 hj hk5)
            clear hj hk5 HN HR hy
            gi_wp2
            go_roundw
            case rel => exact ⟨0, k + 1, k + 1, 0, _, by omega, by omega, rfl, by go_num, T3⟩
            case measure => simp [intOf]; omega
          · gi_wp2
            refine bodyPost_ret (results_none rfl _ _ _) rfl ?_
            exact ⟨⟨_, rfl⟩, .inr ⟨_, trivial, hjx⟩⟩
      · obtain ⟨X, hX, hpl, hnext⟩ := key.out (fun h => absurd h hlt2)
        obtain ⟨fn, tmps, assign, body, hy, hR⟩ := HY.out pre X wr HS.out.j hpl
        dsimp only [encR] at hy
        rw [hX] at hy
        dsimp only at hy
        rw [show ((m + 1 : Nat) : Int) = (m : Int) + 1 by omega] at hy
        have HR := Lib.hid hR
        have HN := Lib.hid hnext
        have hi2 : ¬ ((k : Int) + 1 < zs.length) := by omega
        clear HS HG HE HY key hx hR hnext hX hpl
        gi_wp2
        refine HR.out.mono ?_
        rintro e W5 (⟨rfl, hj, hk5⟩ | ⟨rfl, hjx⟩)
        · have T3 := Lib.hid (HN.out W5 hj hk5)
          clear hj hk5 HN HR hy
          gi_wp2
          go_roundw
          case rel => exact ⟨0, k + 1, k + 1, 0, _, by omega, by omega, rfl, by go_num, T3⟩
          case measure => simp [intOf]; omega
        · gi_wp2
          refine bodyPost_ret (results_none rfl _ _ _) rfl ?_
          exact ⟨⟨_, rfl⟩, .inr ⟨_, trivial, hjx⟩⟩
    · have HF : Hid (vals pre = rle zs ∧ J pre wr) := by
        have hst : st = k := by
          rcases Nat.lt_or_ge st k with h | h
          · exact absurd (HS.out.on h).1 hlt
          · have := HS.out.le; omega
        have hq := HS.out.eq
        rw [List.drop_eq_nil_of_le (by omega)] at hq
        exact ⟨by rw [hq]; simp [rle], HS.out.j⟩
      clear HS HY
      gi_wp2
      go_end0
      exact ⟨⟨_, rfl⟩, .inl ⟨_, HF.out.1, HF.out.2⟩⟩
end Go.Proofs.Ytmeekciclfgkkaa.Dc
