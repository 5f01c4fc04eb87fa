/- Layer 11: the iterator over neighbours. -/
import Derived.RangeFuncNested
import Derived.RangeFuncBound
import Derived.RangeFuncCalls
import Derived.RangeFuncLeaves
import Derived.RangeFuncBox
import Derived.Maps.AppendAt
import Derived.Maps.OwnIn
import Derived.Shelf.Abstract
import Derived.Shelf.RegionOpen
import Derived.OwnWalkIn
import Derived.TacticsInMore
import Derived.LoopNIn
import Derived.LoopIn
import Derived.Sort.CutIn
import Derived.Test.YtobipbedkkmlcaaTaA
import Derived.Test.YtobipbedkkmlcaaSrR
set_option linter.unusedVariables false
set_option linter.unusedSimpArgs false
namespace Go.Proofs.Ytobipbedkkmlcaa.Sr
open Go.RowKit Go.Shelf
attribute [local go_sem] Oper.semAt_some
/-- The neighbours of a list, two by two. -/
def nbs (l : List S) : List (S × S) := l.zip l.tail
theorem nbs_length (l : List S) : (nbs l).length = l.length - 1 := by
  unfold nbs
  rw [List.length_zip, List.length_tail]
  omega
theorem nbs_at {l : List S} {k : Nat} (h : k + 1 < l.length) : (nbs l)[k]? = some (l[k]'(by omega), l[k + 1]) := by
  unfold nbs
  rw [List.getElem?_zip_eq_some]
  refine ⟨List.getElem?_eq_getElem _, ?_⟩
  rw [List.getElem?_tail, List.getElem?_eq_getElem h]
theorem nbs_take {l : List S} {k : Nat} (h : k + 1 < l.length) : (nbs l).take (k + 1) = (nbs l).take k ++ [(l[k]'(by omega), l[k + 1])] := by
  rw [List.take_add_one, nbs_at h]
  rfl
/-- Two neighbours of which R holds. -/
abbrev PE (R : S × S → Prop) := { p : S × S // R p }
abbrev encP {R : S × S → Prop} (x : PE R) : Array Value := #[.agg #[.int .i64 x.1.1.1, .int .i64 x.1.1.2], .agg #[.int .i64 x.1.2.1, .int .i64 x.1.2.2]]
def valP {R : S × S → Prop} (l : List (PE R)) : List (S × S) := l.map (·.1)
theorem valP_snoc {R : S × S → Prop} (l : List (PE R)) (x : PE R) : valP (l ++ [x]) = valP l ++ [x.1] := by unfold valP; rw [List.map_append]; rfl
theorem valP_length {R : S × S → Prop} (l : List (PE R)) : (valP l).length = l.length := List.length_map ..
/-- Two blocks lie as they lay. -/
def KK (b1 b2 : Nat) (W W' : World) : Prop := W'.heap[b1]? = W.heap[b1]? ∧ W'.heap[b2]? = W.heap[b2]?
theorem KK.refl (b1 b2 : Nat) (W : World) : KK b1 b2 W W := ⟨rfl, rfl⟩
theorem KK.trans {b1 b2 : Nat} {A B C : World} (h : KK b1 b2 A B) (k : KK b1 b2 B C) : KK b1 b2 A C := ⟨k.1.trans h.1, k.2.trans h.2⟩
theorem KK.cell1 {b1 b2 : Nat} {A B : World} (h : KK b1 b2 A B) (o : Nat) : B.cell? ⟨b1, o, none⟩ = A.cell? ⟨b1, o, none⟩ := World.cell?_of_block h.1
theorem KK.cell2 {b1 b2 : Nat} {A B : World} (h : KK b1 b2 A B) (o : Nat) : B.cell? ⟨b2, o, none⟩ = A.cell? ⟨b2, o, none⟩ := World.cell?_of_block h.2
theorem KK.put {b1 b2 : Nat} {W : World} {l : Nat} {o : Obj} (h1 : b1 ≠ l) (h2 : b2 ≠ l) : KK b1 b2 W (W.putObj l o) := ⟨World.putObj_heap_other h1, World.putObj_heap_other h2⟩
theorem KK.drew {b1 b2 : Nat} {A B : World} (h : KK b1 b2 A B) : KK b1 b2 A B.drew := h
/-- The list, by its block and its box. -/
structure LiesS (b1 b2 o c : Nat) (a : Option Addr) (l : List S) (V : World) : Prop where
  box : V.cell? ⟨b2, 0, none⟩ = some (.slice a l.length c)
  at_ : 0 < l.length → a = some ⟨b1, o, none⟩
  cells : ∀ j (h : j < l.length), V.cell? ⟨b1, o + j * 2, none⟩ = some (.int .i64 l[j].1) ∧ V.cell? ⟨b1, o + j * 2 + 1, none⟩ = some (.int .i64 l[j].2)
theorem LiesS.kept {b1 b2 o c : Nat} {a : Option Addr} {l : List S} {V V' : World} (h : LiesS b1 b2 o c a l V) (k : KK b1 b2 V V') : LiesS b1 b2 o c a l V' :=
  ⟨(k.cell2 0).trans h.box, h.at_, fun j hj => ⟨(k.cell1 _).trans (h.cells j hj).1, (k.cell1 _).trans (h.cells j hj).2⟩⟩
def yq (T F : World → Prop) (W : World) : Bool → Prop
  | true => T W
  | false => F W
def YQ (T F : World → Prop) (e : Ending) (W : World) : Prop := ∃ q : Bool, e = .returned (.bool q) ∧ yq T F W q
set_option maxRecDepth 100000 in
set_option maxHeartbeats 4000000 in
theorem nb1_in (R : S × S → Prop) (n : Nat) (hn : 1 ≤ n) (lc b1 b2 o c : Nat) (a : Option Addr) (l : List S) (hl : l.length ≤ 100000) (hR : ∀ p ∈ nbs l, R p)
    (J Jx : List (PE R) → World → Prop) (B : Nat) (hJ : AbidesFrom B J) (W : World) (hB : B ≤ W.heap.size)
    (hY : ∀ pre x W, J pre W → pre.length < l.length → YieldAt Fence.wide (n - 1) Try.prog lc (encP x) W fun e W' =>
      (e = .returned (.bool true) ∧ J (pre ++ [x]) W' ∧ KK b1 b2 W W') ∨ (e = .returned (.bool false) ∧ Jx (pre ++ [x]) W'))
    (hL : LiesS b1 b2 o c a l W) (h0 : J [] W) :
    CallsIn Fence.wide n Try.prog 50 #[.func (.yield lc) #[] #[], .pointer (some ⟨b2, 0, none⟩)] W fun e W' => (∃ v, e = .returned v) ∧
      ((∃ ys, valP ys = nbs l ∧ J ys W') ∨ (∃ pre, valP pre <+: nbs l ∧ Jx pre W')) := by
  have HJ := Lib.hid hJ
  have HY := Lib.hid hY
  have HL := Lib.hid hL
  have H0 := Lib.hid h0
  have HRR := Lib.hid hR
  clear hJ hY hL h0 hR
  have hmx : Try.prog.follows .mixedOrders = true := by kernel_rfl
  refine callsIn_of_wp Try.func50 rfl trivial ?_ rfl
  simp only [Try.ntmps50, List.size_toArray, List.length_cons, List.length_nil, Nat.reduceAdd, Nat.reduceSub, Array.replicate_succ, Array.replicate_zero, List.push_toArray, List.append_toArray, List.nil_append, List.cons_append]
  gi_wp2
  gi_loopw [3] (fun vi wr => ∃ (k : Nat) (pre : List (PE R)), k ≤ l.length ∧ vi = .int .i64 ((k : Int) + 1) ∧ Hid (valP pre = (nbs l).take k ∧ pre.length ≤ k) ∧ Hid (J pre wr) ∧ Hid (KK b1 b2 W wr)) (fun vi _ => l.length + 1 - (intOf vi).toNat)
  case atStart => exact ⟨0, [], Nat.zero_le _, rfl, ⟨rfl, Nat.le_refl _⟩, H0, KK.refl _ _ _⟩
  case round =>
    clear H0
    obtain ⟨k, pre, hk, rfl, HP, HJk, HK⟩ := hrel
    have hbox := (HL.out.kept HK.out).box
    by_cases hlt : k + 1 < l.length
    · obtain rfl := HL.out.at_ (by omega)
      obtain ⟨h1, h2⟩ := (HL.out.kept HK.out).cells k (by omega)
      obtain ⟨h3, h4⟩ := (HL.out.kept HK.out).cells (k + 1) hlt
      have hi : (k : Int) + 1 < l.length := by omega
      have hi0 : (k : Int) < l.length := by omega
      have hk0 : k < l.length := by omega
      have hi1 : 0 ≤ (k : Int) + 1 := by omega
      have hw1 : IntKind.i64.wrap ((k : Int) + 1 - 1) = (k : Int) := by rw [IntWalk.i64_in _ (by omega)]; omega
      have hw2 : wrap64 ((k : Int) + 1 - 1) = (k : Int) := by unfold wrap64; omega
      have hw3 : IntKind.i64.wrap (k : Int) = (k : Int) := by rw [IntWalk.i64_in _ (by omega)]
      have hw4 : wrap64 (k : Int) = (k : Int) := by unfold wrap64; omega
      have hmem : (l[k], l[k + 1]) ∈ nbs l := List.mem_of_getElem? (nbs_at hlt)
      obtain ⟨X, hX⟩ : ∃ X : PE R, X.1 = (l[k], l[k + 1]) := ⟨⟨_, HRR.out _ hmem⟩, rfl⟩
      have hJ2 : J pre wr.drew := HJ.out _ _ _ none HJk.out ⟨rfl, rfl, rfl, Nat.le_refl _, fun _ _ _ => rfl⟩ (fun r e => by cases e)
      have HV : Hid (valP (pre ++ [X]) = (nbs l).take (k + 1) ∧ (pre ++ [X]).length ≤ k + 1) := by
        refine ⟨?_, ?_⟩
        · rw [valP_snoc, HP.out.1, nbs_take hlt, hX]
        · rw [List.length_append]
          have := HP.out.2
          simp only [List.length_cons, List.length_nil]
          omega
      have HPX : Hid (valP (pre ++ [X]) <+: nbs l) := by rw [HV.out.1]; exact List.take_prefix _ _
      obtain ⟨fn, tmps, assign, body, hy, hR⟩ := HY.out pre X wr.drew hJ2 (by have := HP.out.2; omega)
      dsimp only [encP] at hy
      rw [hX] at hy
      dsimp only at hy
      have HYR := Lib.hid (hR.mono (R' := YQ (fun W' => J (pre ++ [X]) W' ∧ KK b1 b2 wr.drew W') (fun W' => Jx (pre ++ [X]) W')) (fun e W' h => by
        rcases h with ⟨rfl, hj, hb⟩ | ⟨rfl, hj⟩
        · exact ⟨true, rfl, ⟨hj, hb⟩⟩
        · exact ⟨false, rfl, hj⟩))
      clear hR hJ2 HJk HP HRR hmem hX
      generalize l[k] = x at *
      generalize l[k + 1] = y at *
      gi_wp2
      gi_region_with_o (refine HYR.out.mono ?_; rintro e w5 ⟨q, rfl, hq⟩; have HQ := Lib.hid hq; clear hq)
      all_goals (cases q)
      all_goals gi_wp2
      all_goals first
        | (refine bodyPost_ret (results_none rfl _ _ _) rfl ?_
           exact ⟨⟨_, rfl⟩, .inr ⟨_, HPX.out, HQ.out⟩⟩)
        | (go_roundw
           case rel => exact ⟨k + 1, _, by omega, by go_num, HV, HQ.out.1, HK.out.trans HQ.out.2⟩
           case measure => simp [intOf]; omega)
    · have HF : Hid (valP pre = nbs l) := by
        rw [HP.out.1, List.take_of_length_le (by rw [nbs_length]; omega)]
        exact rfl
      have hi : ¬ (k : Int) + 1 < l.length := by omega
      clear HY
      gi_wp2
      go_end0
      exact ⟨⟨_, rfl⟩, .inl ⟨_, HF.out, HJk.out⟩⟩
end Go.Proofs.Ytobipbedkkmlcaa.Sr
