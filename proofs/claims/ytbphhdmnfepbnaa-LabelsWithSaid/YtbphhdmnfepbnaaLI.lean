/- Layer 5: the iterator named. -/
import Derived.RangeFuncNested
import Derived.RangeFuncBound
import Derived.RangeFuncCalls
import Derived.RangeFuncLeaves
import Derived.RangeFuncBox
import Derived.Maps.AppendAt
import Derived.Maps.OwnIn
import Derived.Shelf.Abstract
import Derived.Shelf.RegionOpen
import Derived.OwnWalkIn
import Derived.TacticsInMore
import Derived.LoopNIn
import Derived.LoopIn
import Derived.Sort.CutIn
import Derived.Deep.QuietTactic
import Derived.BigQuiet
import Derived.Test.YtbphhdmnfepbnaaLG
import Derived.Test.YtbphhdmnfepbnaaLF
set_option linter.unusedVariables false
set_option linter.unusedSimpArgs false
namespace Go.Proofs.Ytbphhdmnfepbnaa.Lab
open Go.RowKit Go.Shelf
attribute [local go_sem] Oper.semAt_some

abbrev encLb (x : Lb) : Array Value := #[.agg #[.string x.n, .string x.v]]
theorem keepL_take {b : Bool} {ns : List ByteArray} {l : List Lb} {k : Nat} : keepL b ns (l.take k) <+: keepL b ns l := by
  unfold keepL
  exact List.IsPrefix.filter _ (List.take_prefix _ _)
/-- What a round of the loop tells the iterator. -/
def yq (T F : World → Prop) (W : World) : Bool → Prop
  | true => T W
  | false => F W
def YQ (T F : World → Prop) (e : Ending) (W : World) : Prop := ∃ q : Bool, e = .returned (.bool q) ∧ yq T F W q
set_option maxRecDepth 100000 in
set_option maxHeartbeats 4000000 in
theorem named1_in (n : Nat) (hn : 1 ≤ n) (lc n₀ bl bn bb : Nat) (b : Bool) (l : List Lb) (hl : l.length ≤ 100000) (ns : List ByteArray) (hns : ns.length ≤ maxLen) (A C : Option Addr) (c d : Nat)
    (J Jx : List Lb → World → Prop) (B : Nat) (hJ : AbidesFrom B J) (W : World) (hB : B ≤ W.heap.size)
    (hY : ∀ pre x W, J pre W → pre.length < l.length → YieldAt Fence.wide (n - 1) Try.prog lc (encLb x) W fun e W' =>
      (e = .returned (.bool true) ∧ J (pre ++ [x]) W' ∧ Below n₀ W W') ∨ (e = .returned (.bool false) ∧ Jx (pre ++ [x]) W'))
    (hn0 : n₀ ≤ W.heap.size) (hbl : bl < n₀) (hbn : bn < n₀) (hbb : bb < n₀)
    (h1 : W.cell? ⟨bl, 0, none⟩ = some (.slice A l.length c)) (h2 : W.cell? ⟨bn, 0, none⟩ = some (.slice C ns.length d)) (h3 : W.cell? ⟨bb, 0, none⟩ = some (.bool b))
    (hL : LS W n₀ A l) (hN : SS W n₀ C ns) (h0 : J [] W) :
    CallsIn Fence.wide n Try.prog 57 #[.func (.yield lc) #[] #[], .pointer (some ⟨bl, 0, none⟩), .pointer (some ⟨bn, 0, none⟩), .pointer (some ⟨bb, 0, none⟩)] W fun e W' => (∃ v, e = .returned v) ∧
      ((∃ ys, ys = keepL b ns l ∧ J ys W') ∨ (∃ pre, pre <+: keepL b ns l ∧ Jx pre W')) := by
  have HJ := Lib.hid hJ
  have HY := Lib.hid hY
  have HN := Lib.hid hns
  have H2 := Lib.hid h2
  have H3 := Lib.hid h3
  have HL := Lib.hid hL
  have HS := Lib.hid hN
  have H0 := Lib.hid h0
  clear hJ hY hns h2 h3 hL hN h0
  have hmx : Try.prog.follows .mixedOrders = true := by kernel_rfl
  refine callsIn_of_wp Try.func57 rfl trivial ?_ rfl
  simp only [Try.ntmps57, List.size_toArray, List.length_cons, List.length_nil, Nat.reduceAdd, Nat.reduceSub, Array.replicate_succ, Array.replicate_zero, List.push_toArray, List.append_toArray, List.nil_append, List.cons_append]
  gi_wp2
  gi_loopw [9] (fun vi wr => ∃ k : Nat, k ≤ l.length ∧ vi = .int .i64 k ∧ Hid (J (keepL b ns (l.take k)) wr) ∧ Hid (Below n₀ W wr)) (fun vi _ => l.length - (intOf vi).toNat)
  case atStart => exact ⟨0, by omega, rfl, H0, Below.refl _ _⟩
  case round =>
    clear H0
    obtain ⟨k, hk, rfl, HJk, HB⟩ := hrel
    by_cases hlt : k < l.length
    · obtain ⟨ba, off, rfl, hba, h4', h5'⟩ := HL.out.at_ hlt
      have h4 := (HB.out.cell (p := ⟨ba, off + k * 2, none⟩) hba).trans h4'
      have h5 := (HB.out.cell (p := ⟨ba, off + k * 2 + 1, none⟩) hba).trans h5'
      have h2 := (HB.out.cell (p := ⟨bn, 0, none⟩) hbn).trans H2.out
      have h3 := (HB.out.cell (p := ⟨bb, 0, none⟩) hbb).trans H3.out
      have hsz := HB.out.size
      have hbn2 : bn < wr.heap.size := by omega
      have hbb2 : bb < wr.heap.size := by omega
      have hba2 : ba < wr.heap.size := by omega
      clear h4' h5'
      have B1 : Below n₀ wr ((wr.alloc (.cells #[.string l[k].n, .string l[k].v] 29)).drew) := ((Below.refl n₀ wr).alloc (by omega) _).drew
      have CC := Lib.hid (contains_any ns HN.out l[k].n C d n₀ ((wr.alloc (.cells #[.string l[k].n, .string l[k].v] 29)).drew) (HS.out.below (HB.out.trans B1)))
      have HB1 := Lib.hid (HB.out.trans B1)
      have J1 : J (keepL b ns (l.take k)) (wr.alloc (.cells #[.string l[k].n, .string l[k].v] 29)) := HJ.out _ _ _ none HJk.out (World.grownBy_alloc wr _ none) (fun r e => by cases e)
      have J2 : Hid (J (keepL b ns (l.take k)) ((wr.alloc (.cells #[.string l[k].n, .string l[k].v] 29)).drew)) := HJ.out _ _ _ none J1 ⟨rfl, rfl, rfl, Nat.le_refl _, fun _ _ _ => rfl⟩ (fun r e => by cases e)
      have HJk2 := HJk
      clear J1 B1 HJk
      have HLN : Hid ((keepL b ns (l.take k)).length < l.length) := by
        have h1 := keepL_len b ns (l.take k)
        have h2 : (l.take k).length ≤ k := List.length_take_le _ _
        exact (by omega : (keepL b ns (l.take k)).length < l.length)
      by_cases hb : hasB ns l[k].n = b
      · have HE := Lib.hid (keepL_yes hlt hb)
        rw [hb] at CC
        clear hb
        obtain ⟨fn, tmps, assign, body, hy, hR⟩ := HY.out _ l[k] _ J2.out HLN.out
        dsimp only [encLb] at hy
        have HRR := Lib.hid (hR.mono (R' := YQ (fun W' => J (keepL b ns (l.take k) ++ [l[k]]) W' ∧ Below n₀ ((wr.alloc (.cells #[.string l[k].n, .string l[k].v] 29)).drew) W') (fun W' => Jx (keepL b ns (l.take k) ++ [l[k]]) W')) (fun e W' h => by
          rcases h with ⟨rfl, hj, hb⟩ | ⟨rfl, hj⟩
          · exact ⟨true, rfl, ⟨hj, hb⟩⟩
          · exact ⟨false, rfl, hj⟩))
        clear hR J2
        clear HJk2 hsz
        gi_wp2
        gi_region_with_o (first
          | (refine ⟨trivial, ?_⟩; gi_at_call 33; with_reducible refine (callsIn_wide.2 CC.out).mono ?_; rintro e w5 ⟨rfl, rfl⟩)
          | (refine HRR.out.mono ?_; rintro e w5 ⟨q, rfl, hq⟩; have HQ := Lib.hid hq; clear hq))
        all_goals (cases q)
        all_goals gi_wp2
        all_goals first
          | (refine bodyPost_ret (results_none rfl _ _ _) rfl ?_
             exact ⟨⟨_, rfl⟩, .inr ⟨_, HE.out ▸ keepL_take, HQ.out⟩⟩)
          | (go_roundw
             case rel => exact ⟨k + 1, by omega, by go_num, by rw [HE.out]; exact HQ.out.1, HB1.out.trans HQ.out.2⟩
             case measure => simp [intOf]; omega)
      · have hb2 : hasB ns l[k].n = !b := by
          cases b <;> cases hh : hasB ns l[k].n <;> simp_all
        have HE := Lib.hid (keepL_no hlt hb2)
        have hb3 := hb2
        clear hb hb2 HY HLN
        have CQ : Hid (∀ q, Calls Try.prog 33 #[.slice C ns.length d, .string l[k].n] ((wr.alloc (.cells #[.string l[k].n, .string l[k].v] 29)).drewN q) fun e w' => e = .returned (.bool (!b)) ∧ (wr.alloc (.cells #[.string l[k].n, .string l[k].v] 29)).drewN q = w') := fun q => by
          rw [← hb3]
          exact contains_any ns HN.out l[k].n C d n₀ _ (HS.out.below (HB.out.trans (((Below.refl n₀ wr).alloc (by omega) _).trans ⟨rfl, rfl, rfl, Nat.le_refl _, fun _ _ => rfl⟩)))
        have JQ : Hid (∀ q, J (keepL b ns (l.take k)) ((wr.alloc (.cells #[.string l[k].n, .string l[k].v] 29)).drewN q)) := fun q => HJ.out _ _ _ none (HJ.out _ _ _ none HJk2.out (World.grownBy_alloc wr _ none) (fun r e => by cases e)) ⟨rfl, rfl, rfl, Nat.le_refl _, fun _ _ _ => rfl⟩ (fun r e => by cases e)
        have BQ : Hid (∀ q, Below n₀ W ((wr.alloc (.cells #[.string l[k].n, .string l[k].v] 29)).drewN q)) := fun q => HB.out.trans (((Below.refl n₀ wr).alloc (by omega) _).trans ⟨rfl, rfl, rfl, Nat.le_refl _, fun _ _ => rfl⟩)
        clear hb3 CC J2 HB1
        cases b
        all_goals simp only [Bool.not_false, Bool.not_true] at CQ
        all_goals
          gi_wp2
          refine wpIn_wide.2 ?_
          go_quiet ((go_at_call 33; first | exact quiet_left (CQ.out _) | exact quiet_add_left (CQ.out _)))
          gi_wp2
          go_roundw
          case rel => exact ⟨k + 1, by omega, by go_num, by rw [HE.out]; exact JQ.out _, BQ.out _⟩
          case measure => simp [intOf]; omega
    · obtain rfl : k = l.length := by omega
      have HF : Hid (J (keepL b ns l) wr) := by
        have h := HJk.out
        rw [List.take_of_length_le (Nat.le_refl _)] at h
        exact h
      clear HJk
      gi_wp2
      go_end0
      exact ⟨⟨_, rfl⟩, .inl ⟨_, rfl, HF.out⟩⟩
/-- named: its arguments are boxed. -/
theorem named_any (A C : Option Addr) (k c m d : Nat) (b : Bool) (w : World) :
    Calls Try.prog 36 #[.slice A k c, .slice C m d, .bool b] w fun e w' => e = .returned (.func (.func 57) #[] #[.pointer (some ⟨w.heap.size, 0, none⟩), .pointer (some ⟨w.heap.size + 1, 0, none⟩), .pointer (some ⟨w.heap.size + 1 + 1, 0, none⟩)]) ∧ ((w.alloc (.cells #[.slice A k c] 22)).alloc (.cells #[.slice C m d] 23)).alloc (.cells #[.bool b] 4) = w' := by
  go_enter Try.func36, Try.ntmps36
  go_wp2
  go_ret
  exact ⟨rfl, rfl⟩
theorem named_stops (n : Nat) (hn : 1 ≤ n) (n₀ bl bn bb : Nat) (b : Bool) (l : List Lb) (hl : l.length ≤ 100000) (ns : List ByteArray) (hns : ns.length ≤ maxLen) (A C : Option Addr) (c d : Nat) (w : World)
    (hn0 : n₀ ≤ w.heap.size) (hbl : bl < n₀) (hbn : bn < n₀) (hbb : bb < n₀)
    (h1 : w.cell? ⟨bl, 0, none⟩ = some (.slice A l.length c)) (h2 : w.cell? ⟨bn, 0, none⟩ = some (.slice C ns.length d)) (h3 : w.cell? ⟨bb, 0, none⟩ = some (.bool b))
    (hL : LS w n₀ A l) (hN : SS w n₀ C ns) :
    SeqStopsK Fence.wide n Try.prog 57 #[.pointer (some ⟨bl, 0, none⟩), .pointer (some ⟨bn, 0, none⟩), .pointer (some ⟨bb, 0, none⟩)] encLb (Below n₀) (fun ys => ys = keepL b ns l) (fun pre => pre <+: keepL b ns l) l.length w :=
  fun lc J Jx W hW hJ _ hY h0 => by
    have hk : ∀ q : Addr, q.block < n₀ → W.cell? q = w.cell? q := fun q hq => hW.cell (by omega)
    exact named1_in n hn lc n₀ bl bn bb b l hl ns hns A C c d J Jx W.heap.size hJ W (Nat.le_refl _) hY (Nat.le_trans hn0 hW.size) hbl hbn hbb
      ((hk _ hbl).trans h1) ((hk _ hbn).trans h2) ((hk _ hbb).trans h3) (hL.keep hk) (hN.keep hk) h0
end Go.Proofs.Ytbphhdmnfepbnaa.Lab
