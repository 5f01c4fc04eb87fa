/- Layer 10: slices.Values, slices.AppendSeq and slices.Collect, at lists of strings. -/
import Derived.RangeFuncNested
import Derived.RangeFuncBound
import Derived.RangeFuncCalls
import Derived.RangeFuncLeaves
import Derived.RangeFuncBox
import Derived.Maps.AppendAt
import Derived.Maps.OwnIn
import Derived.Shelf.Abstract
import Derived.Shelf.RegionOpen
import Derived.WalkKit
import Derived.OwnWalkIn
import Derived.TacticsInMore
import Derived.LoopNIn
import Derived.LoopIn
import Derived.Test.YtpinmmmbmhfmiaaDtK
set_option linter.unusedVariables false
set_option linter.unusedSimpArgs false
namespace Go.Proofs.Ytpinmmmbmhfmiaa.Dt
open Go.RowKit Go.Shelf Dc

attribute [local go_sem] Oper.semAt_some

set_option maxRecDepth 100000 in
set_option maxHeartbeats 2000000 in
theorem values1_in (dp : Nat) (hn : 1 ≤ dp) (l Bs n₀ : Nat) (a : Option Addr) (cap : Nat) (zs : List BA) (hl : zs.length ≤ 1152921504606846976) (J Jx : List BA → World → Prop)
    (hY : ∀ pre x W, J pre W → pre.length < zs.length → YieldAt Fence.wide (dp - 1) Try.prog l #[.string x] W fun e W' =>
      (e = .returned (.bool true) ∧ J (pre ++ [x]) W' ∧ Below n₀ W W') ∨ (e = .returned (.bool false) ∧ Jx (pre ++ [x]) W'))
    (W : World) (hBs : W.cell? ⟨Bs, 0, none⟩ = some (.slice a zs.length cap)) (hc : 0 < zs.length → ∃ b off, a = some ⟨b, off, none⟩ ∧ b < n₀ ∧ ∀ j, j < zs.length → W.cell? ⟨b, off + j, none⟩ = some (.string (zs[j]?.getD ⟨#[]⟩))) (h0 : J [] W) :
    CallsIn Fence.wide dp Try.prog 84 #[.func (.yield l) #[] #[], .pointer (some ⟨Bs, 0, none⟩)] W fun e W' => (∃ v, e = .returned v) ∧
      ((∃ ys, ys = zs ∧ J ys W') ∨ (∃ pre, True ∧ Jx pre W')) := by
  have HX := Lib.hid hc
  have HY := Lib.hid hY
  clear hc hY
  refine callsIn_of_wp Try.func84 rfl trivial ?_ rfl
  simp only [Try.ntmps84, List.size_toArray, List.length_cons, List.length_nil, Nat.reduceAdd, Nat.reduceSub, Array.replicate_succ, Array.replicate_zero, List.push_toArray, List.append_toArray, List.nil_append, List.cons_append]
  gi_wp2
  gi_loopw [7] (fun i wr => ∃ k : Nat, k ≤ zs.length ∧ i = .int .i64 k ∧ Hid (J (zs.take k) wr) ∧ Hid (Below n₀ W wr))
    (fun i _ => zs.length - (intOf i).toNat)
  case atStart => exact ⟨0, Nat.zero_le _, rfl, h0, Below.refl _ _⟩
  case round =>
    obtain ⟨k, hk, rfl, hJs, hnx⟩ := hrel
    by_cases hlt : k < zs.length
    · obtain ⟨b, off, rfl, hb, hcc⟩ := HX.out (by omega)
      obtain ⟨fn, tmps, assign, body, hy, hR⟩ := HY.out _ (zs[k]?.getD ⟨#[]⟩) wr hJs.out (by rw [List.length_take]; omega)
      have hcx' : wr.cell? ⟨b, off + k, none⟩ = some (.string (zs[k]?.getD ⟨#[]⟩)) := (hnx.out.cell (p := ⟨b, off + k, none⟩) hb).trans (hcc k hlt)
      have hi : (k : Int) < zs.length := by omega
      have hw2 : wrap64 ((k : Int) + 1) = ((k + 1 : Nat) : Int) := by unfold wrap64; omega
      have HT : Hid (zs.take k ++ [zs[k]?.getD ⟨#[]⟩] = zs.take (k + 1)) := Lib.hid (by rw [List.take_add_one, List.getElem?_eq_getElem hlt]; rfl)
      rw [HT.out] at hR
      have HR := Lib.hid hR
      generalize zs[k]?.getD ⟨#[]⟩ = x at *
      clear hcc HX HY hJs hR HT
      gi_wp2
      refine HR.out.mono ?_
      rintro e W3 (⟨rfl, hJ3, hk3⟩ | ⟨rfl, hJx3⟩)
      · have T3 := Lib.hid hJ3
        have T4 : Hid (Below n₀ W W3) := hnx.out.trans hk3
        clear hJ3 hk3 HR hy hnx
        gi_wp2
        go_roundw
        case rel => exact ⟨k + 1, by omega, by go_num, T3, T4⟩
        case measure => simp [intOf]; omega
      · gi_wp2
        refine bodyPost_ret (results_none rfl _ _ _) rfl ?_
        exact ⟨⟨_, rfl⟩, .inr ⟨_, trivial, hJx3⟩⟩
    · have HF : Hid (zs.take k = zs) := Lib.hid (List.take_of_length_le (by omega))
      clear HX HY
      gi_wp2
      go_end0
      exact ⟨⟨_, rfl⟩, .inl ⟨_, HF.out, hJs.out⟩⟩
theorem values_in (dp : Nat) (a : Option Addr) (n c : Nat) (w : World) :
    CallsIn Fence.wide dp Try.prog 62 #[.slice a n c] w fun e w' => e = .returned (.func (.func 84) #[] #[.pointer (some ⟨w.heap.size, 0, none⟩)]) ∧ w' = w.alloc (.cells #[.slice a n c] 22) := by
  refine callsIn_of_wp Try.func62 rfl trivial ?_ rfl
  simp only [Try.ntmps62, List.size_toArray, List.length_cons, List.length_nil, Nat.reduceAdd, Nat.reduceSub, Array.replicate_succ, Array.replicate_zero, List.push_toArray, List.append_toArray, List.nil_append, List.cons_append]
  gi_wp2
  go_ret
  exact ⟨rfl, rfl⟩
/-- The list behind the box at b2, all of it below n₀. -/
structure ValsOf (n₀ b2 : Nat) (zs : List BA) (W : World) : Prop where
  box : b2 < n₀
  at_ : ∃ a cap, W.cell? ⟨b2, 0, none⟩ = some (.slice a zs.length cap) ∧ (0 < zs.length → ∃ b off, a = some ⟨b, off, none⟩ ∧ b < n₀ ∧ ∀ j, j < zs.length → W.cell? ⟨b, off + j, none⟩ = some (.string (zs[j]?.getD ⟨#[]⟩)))
theorem ValsOf.below {n₀ b2 : Nat} {zs : List BA} {W W' : World} (h : ValsOf n₀ b2 zs W) (hb : Below n₀ W W') : ValsOf n₀ b2 zs W' := by
  obtain ⟨h1, a, cap, h2, h3⟩ := h
  refine ⟨h1, a, cap, (hb.cell (p := ⟨b2, 0, none⟩) h1).trans h2, fun hp => ?_⟩
  obtain ⟨b, off, e, hlt, hc⟩ := h3 hp
  exact ⟨b, off, e, hlt, fun j hj => (hb.cell (p := ⟨b, off + j, none⟩) hlt).trans (hc j hj)⟩
theorem ValsOf.mono {n m b2 : Nat} {zs : List BA} {W : World} (h : ValsOf n b2 zs W) (hm : n ≤ m) : ValsOf m b2 zs W := by
  obtain ⟨h1, a, cap, h2, h3⟩ := h
  refine ⟨Nat.lt_of_lt_of_le h1 hm, a, cap, h2, fun hp => ?_⟩
  obtain ⟨b, off, e, hlt, hc⟩ := h3 hp
  exact ⟨b, off, e, Nat.lt_of_lt_of_le hlt hm, hc⟩
theorem values_stops (dp : Nat) (hn : 1 ≤ dp) (n₀ b2 : Nat) (zs : List BA) (hl : zs.length ≤ 1152921504606846976) (w : World) (hn₀ : n₀ ≤ w.heap.size) (hV : ValsOf n₀ b2 zs w) :
    SeqStopsK Fence.wide dp Try.prog 84 #[.pointer (some ⟨b2, 0, none⟩)] (fun x : BA => #[Value.string x]) (Below n₀) (fun ys => ys = zs) (fun _ => True) zs.length w := fun l J Jx W hW hJ hJx hY hj => by
  obtain ⟨h1, a, cap, h2, h3⟩ := hV.below (hW.mono hn₀)
  exact values1_in dp hn l b2 n₀ a cap zs hl J Jx hY W h2 h3 hj

set_option maxRecDepth 100000 in
set_option maxHeartbeats 2000000 in
theorem appSeq_in (dp : Nat) (hd : 3 ≤ dp) (b2 : Nat) (zs : List BA) (hl : zs.length ≤ 100000) (w : World) (hV : ValsOf w.heap.size b2 zs w) :
    CallsIn Fence.wide dp Try.prog 96 #[.slice none 0 0, .func (.func 84) #[] #[.pointer (some ⟨b2, 0, none⟩)]] w (StrsOut w zs) := by
  obtain ⟨i0, hi, hz0, hz1, hz2⟩ := info_parts infoS
  refine callsIn_of_wp_marks Try.func96 rfl trivial ?_ rfl
  simp only [Try.ntmps96, List.size_toArray, List.length_cons, List.length_nil, Nat.reduceAdd, Nat.reduceSub, Array.replicate_succ, Array.replicate_zero, List.push_toArray, List.append_toArray, List.nil_append, List.cons_append]
  gi_wp2_with fail
  have bO := Boxed.new w 22 (.slice none 0 0)
  have hB0 : Below w.heap.size w (w.alloc (.cells #[.slice none 0 0] 22)) := (Below.refl _ w).alloc (Nat.le_refl _) _
  have hz0' : (w.alloc (.cells #[.slice none 0 0] 22)).heap.size = w.heap.size + 1 := by simp only [World.size_alloc]
  have hV0 := hV.below hB0
  generalize hW0 : w.alloc (.cells #[.slice none 0 0] 22) = W0 at *
  clear hW0
  refine wpIn_rangeFunc_ownG rfl (by omega) (gf := 84) (lb := #[.pointer (some ⟨b2, 0, none⟩)]) rfl trivial (enters_of Try.func84 (by kernel_rfl) rfl)
    (values_stops (dp - 1) (by omega) w.heap.size b2 zs (by omega) W0 (by omega) hV0) belowK_t (belowK_b (by omega)) (Below.refl _ _) (fun _ => rfl)
    (fun pre W => (∃ v, Boxed W w.heap.size 22 v ∧ W.ownsRow w.heap.size 9 1 v pre.length (sc pre) ∧ True) ∧ Below w.heap.size w W)
    (fun _ _ _ => False)
    (OwnFrom.and (Own.from (holdsRow_own w.heap.size w.heap.size 22 9 1 (fun pre => pre.length) (fun pre => sc pre) (fun _ _ => True)) _) (ownFrom_below (Nat.le_refl _) (by omega)))
    (fun _ _ _ _ _ hs _ _ => hs)
    ⟨⟨_, bO, World.ownsRow_nil _ _ _ _, trivial⟩, hB0⟩
    (fun x => { tmps := #[.slice none 0 0, .func (.func 84) #[] #[.pointer (some ⟨b2, 0, none⟩)], .pointer (some ⟨w.heap.size, 0, none⟩), undef, .slice none 0 0, .string x, .func (.func 84) #[] #[.pointer (some ⟨b2, 0, none⟩)], .string x, undef, undef, undef, undef, undef], defers := [] })
    ?assign ?body ?done ?stop
  case assign =>
    intro l x W K hK
    gi_wp2
    exact hK
  case body =>
    rintro l pre x W ⟨⟨v, hv, hrow, _⟩, hB⟩ hlt
    have hc := hv.cell
    have hsz : pre.length + 1 ≤ 100000 := by omega
    gi_wp2_with (gi_at_builtin; refine wpListIn_append_own _ rfl _ _ 22 rfl w.heap.size 9 i0 (.string ⟨#[]⟩) 1 16 Try.underlying22 hi hz0 hz1 hz2 rfl (by decide) _ _ _ rfl (hrow.alloc _) ⟨W.heap.size, 0, none⟩ 1 1 [.string x] rfl rfl (cell_one_new _ _ _) (by simp [Value.oneCell']) (by simp only [maxLen]; omega) (by omega) (by have := hB.size; simp; omega) ?_; intro v' w1 hown' hgrow _; obtain ⟨g', cap', rfl⟩ := ownsRow_succ hown'; obtain ⟨hv1, hv2, hr2, hk2, hb2⟩ := hv.appended (by decide) hrow hB.size (Nat.le_refl _) hown' hgrow; have hc1 := hv1.cell; have hf1 := hv1.frozen)
    exact ⟨hk2.from _, hb2, ⟨_, hv2, by rw [sc_snoc, List.length_append]; exact hr2, trivial⟩, hB.trans hb2⟩
  case done =>
    rintro D ys W hD rfl ⟨⟨v, hv, hrow, _⟩, hB⟩ hK
    have hc := hv.cell
    obtain ⟨A', c', rfl⟩ := own_form hrow
    gi_wp2
    refine ⟨by simp, .inl ⟨_, _, rfl, run_takeDeferred hK, ?_⟩⟩
    exact ⟨_, results_tmp rfl _ _ _, .slice A' ys.length c', rfl, ownsRow_putObj hrow _ hK rfl, hB.trans (belowK_b (w := w) (Nat.le_refl _) W D _ _ (by omega) hK rfl rfl)⟩
  case stop =>
    rintro D c pre W _ _ h _
    exact h.elim
theorem collect_in (dp : Nat) (hd : 4 ≤ dp) (b2 : Nat) (zs : List BA) (hl : zs.length ≤ 100000) (w : World) (hV : ValsOf w.heap.size b2 zs w) :
    CallsIn Fence.wide dp Try.prog 82 #[.func (.func 84) #[] #[.pointer (some ⟨b2, 0, none⟩)]] w (StrsOut w zs) := by
  have HA := Lib.hid (appSeq_in (dp - 1) (by omega) b2 zs hl w hV)
  refine callsIn_of_wp Try.func82 rfl trivial ?_ rfl
  simp only [Try.ntmps82, List.size_toArray, List.length_cons, List.length_nil, Nat.reduceAdd, Nat.reduceSub, Array.replicate_succ, Array.replicate_zero, List.push_toArray, List.append_toArray, List.nil_append, List.cons_append]
  gi_wp2_with fail
  refine ⟨trivial, fun _ => by omega, ?_⟩
  refine HA.out.mono ?_
  rintro e w1 ⟨v, rfl, ho, hb⟩
  gi_wp2
  go_ret
  exact ⟨_, rfl, ho, hb⟩
end Go.Proofs.Ytpinmmmbmhfmiaa.Dt
