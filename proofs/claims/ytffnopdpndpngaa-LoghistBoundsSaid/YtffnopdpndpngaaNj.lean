/- Layer 12: slices.Sorted(slices.Values(l)), at numbers. -/
import Derived.RangeFuncNested
import Derived.RangeFuncBound
import Derived.RangeFuncCalls
import Derived.RangeFuncLeaves
import Derived.RangeFuncBox
import Derived.Maps.AppendAt
import Derived.Maps.OwnIn
import Derived.Shelf.Abstract
import Derived.Shelf.RegionOpen
import Derived.WalkKit
import Derived.OwnWalkIn
import Derived.TacticsInMore
import Derived.LoopNIn
import Derived.LoopIn
import Derived.Sort.OwnSorted
import Derived.Sort.OwnSortedInts
import Derived.Test.YtffnopdpndpngaaMl
import Derived.Test.YtffnopdpndpngaaNh
set_option linter.unusedVariables false
set_option linter.unusedSimpArgs false
namespace Go.Proofs.Ytffnopdpndpngaa.Lh
open Go.RowKit Go.Shelf Go.Sort Go.Maps
theorem ic_snoc (l : List Int) (x : Int) : ic (l ++ [x]) = ic l ++ [.int .i64 x] := by unfold ic; simp
def ZOut (w : World) (l : List Int) (e : Ending) (w' : World) : Prop := ∃ v, e = .returned v ∧ w'.ownsRow w.heap.size 3 1 v l.length (ic l) ∧ Below w.heap.size w w'
theorem cell_one_new2 (w : World) (u : Value) (e : TypeId) : ∀ j v, [u][j]? = some v → (w.alloc (.cells #[u] e)).cell? ((⟨w.heap.size, 0, none⟩ : Addr).add j) = some v := by
  intro j v h
  match j, h with
  | 0, h =>
    simp at h
    subst h
    simp [Addr.add]
  | j + 1, h => simp at h
attribute [local go_sem] Oper.semAt_some

set_option maxRecDepth 100000 in
set_option maxHeartbeats 2000000 in
theorem values1_in (dp : Nat) (hn : 1 ≤ dp) (l Bs n₀ : Nat) (a : Option Addr) (cap : Nat) (zs : List Int) (hl : zs.length ≤ 1152921504606846976) (J Jx : List Int → World → Prop)
    (hY : ∀ pre x W, J pre W → pre.length < zs.length → YieldAt Fence.wide (dp - 1) Try.prog l #[.int .i64 x] W fun e W' =>
      (e = .returned (.bool true) ∧ J (pre ++ [x]) W' ∧ Below n₀ W W') ∨ (e = .returned (.bool false) ∧ Jx (pre ++ [x]) W'))
    (W : World) (hBs : W.cell? ⟨Bs, 0, none⟩ = some (.slice a zs.length cap)) (hc : 0 < zs.length → ∃ b off, a = some ⟨b, off, none⟩ ∧ b < n₀ ∧ ∀ j, j < zs.length → W.cell? ⟨b, off + j, none⟩ = some (.int .i64 (zs[j]?.getD 0))) (h0 : J [] W) :
    CallsIn Fence.wide dp Try.prog 61 #[.func (.yield l) #[] #[], .pointer (some ⟨Bs, 0, none⟩)] W fun e W' => (∃ v, e = .returned v) ∧
      ((∃ ys, ys = zs ∧ J ys W') ∨ (∃ pre, True ∧ Jx pre W')) := by
  have HX := Lib.hid hc
  have HY := Lib.hid hY
  clear hc hY
  refine callsIn_of_wp Try.func61 rfl trivial ?_ rfl
  simp only [Try.ntmps61, List.size_toArray, List.length_cons, List.length_nil, Nat.reduceAdd, Nat.reduceSub, Array.replicate_succ, Array.replicate_zero, List.push_toArray, List.append_toArray, List.nil_append, List.cons_append]
  gi_wp2
  gi_loopw [7] (fun i wr => ∃ k : Nat, k ≤ zs.length ∧ i = .int .i64 k ∧ Hid (J (zs.take k) wr) ∧ Hid (Below n₀ W wr))
    (fun i _ => zs.length - (intOf i).toNat)
  case atStart => exact ⟨0, Nat.zero_le _, rfl, h0, Below.refl _ _⟩
  case round =>
    obtain ⟨k, hk, rfl, hJs, hnx⟩ := hrel
    by_cases hlt : k < zs.length
    · obtain ⟨b, off, rfl, hb, hcc⟩ := HX.out (by omega)
      obtain ⟨fn, tmps, assign, body, hy, hR⟩ := HY.out _ (zs[k]?.getD 0) wr hJs.out (by rw [List.length_take]; omega)
      have hcx' : wr.cell? ⟨b, off + k, none⟩ = some (.int .i64 (zs[k]?.getD 0)) := (hnx.out.cell (p := ⟨b, off + k, none⟩) hb).trans (hcc k hlt)
      have hi : (k : Int) < zs.length := by omega
      have hw2 : wrap64 ((k : Int) + 1) = ((k + 1 : Nat) : Int) := by unfold wrap64; omega
      have HT : Hid (zs.take k ++ [zs[k]?.getD 0] = zs.take (k + 1)) := Lib.hid (by rw [List.take_add_one, List.getElem?_eq_getElem hlt]; rfl)
      rw [HT.out] at hR
      have HR := Lib.hid hR
      generalize zs[k]?.getD 0 = x at *
      clear hcc HX HY hJs hR HT
      gi_wp2
      refine HR.out.mono ?_
      rintro e W3 (⟨rfl, hJ3, hk3⟩ | ⟨rfl, hJx3⟩)
      · have T3 := Lib.hid hJ3
        have T4 : Hid (Below n₀ W W3) := hnx.out.trans hk3
        clear hJ3 hk3 HR hy hnx
        gi_wp2
        go_roundw
        case rel => exact ⟨k + 1, by omega, by go_num, T3, T4⟩
        case measure => simp [intOf]; omega
      · gi_wp2
        refine bodyPost_ret (results_none rfl _ _ _) rfl ?_
        exact ⟨⟨_, rfl⟩, .inr ⟨_, trivial, hJx3⟩⟩
    · have HF : Hid (zs.take k = zs) := Lib.hid (List.take_of_length_le (by omega))
      clear HX HY
      gi_wp2
      go_end0
      exact ⟨⟨_, rfl⟩, .inl ⟨_, HF.out, hJs.out⟩⟩
theorem values_in (dp : Nat) (a : Option Addr) (n c : Nat) (w : World) :
    CallsIn Fence.wide dp Try.prog 37 #[.slice a n c] w fun e w' => e = .returned (.func (.func 61) #[] #[.pointer (some ⟨w.heap.size, 0, none⟩)]) ∧ w' = w.alloc (.cells #[.slice a n c] 46) := by
  refine callsIn_of_wp Try.func37 rfl trivial ?_ rfl
  simp only [Try.ntmps37, List.size_toArray, List.length_cons, List.length_nil, Nat.reduceAdd, Nat.reduceSub, Array.replicate_succ, Array.replicate_zero, List.push_toArray, List.append_toArray, List.nil_append, List.cons_append]
  gi_wp2
  go_ret
  exact ⟨rfl, rfl⟩
/-- The list behind the box at b2, all of it below n₀. -/
structure ValsOf (n₀ b2 : Nat) (zs : List Int) (W : World) : Prop where
  box : b2 < n₀
  at_ : ∃ a cap, W.cell? ⟨b2, 0, none⟩ = some (.slice a zs.length cap) ∧ (0 < zs.length → ∃ b off, a = some ⟨b, off, none⟩ ∧ b < n₀ ∧ ∀ j, j < zs.length → W.cell? ⟨b, off + j, none⟩ = some (.int .i64 (zs[j]?.getD 0)))
theorem ValsOf.below {n₀ b2 : Nat} {zs : List Int} {W W' : World} (h : ValsOf n₀ b2 zs W) (hb : Below n₀ W W') : ValsOf n₀ b2 zs W' := by
  obtain ⟨h1, a, cap, h2, h3⟩ := h
  refine ⟨h1, a, cap, (hb.cell (p := ⟨b2, 0, none⟩) h1).trans h2, fun hp => ?_⟩
  obtain ⟨b, off, e, hlt, hc⟩ := h3 hp
  exact ⟨b, off, e, hlt, fun j hj => (hb.cell (p := ⟨b, off + j, none⟩) hlt).trans (hc j hj)⟩
theorem ValsOf.mono {n m b2 : Nat} {zs : List Int} {W : World} (h : ValsOf n b2 zs W) (hm : n ≤ m) : ValsOf m b2 zs W := by
  obtain ⟨h1, a, cap, h2, h3⟩ := h
  refine ⟨Nat.lt_of_lt_of_le h1 hm, a, cap, h2, fun hp => ?_⟩
  obtain ⟨b, off, e, hlt, hc⟩ := h3 hp
  exact ⟨b, off, e, Nat.lt_of_lt_of_le hlt hm, hc⟩
theorem values_stops (dp : Nat) (hn : 1 ≤ dp) (n₀ b2 : Nat) (zs : List Int) (hl : zs.length ≤ 1152921504606846976) (w : World) (hn₀ : n₀ ≤ w.heap.size) (hV : ValsOf n₀ b2 zs w) :
    SeqStopsK Fence.wide dp Try.prog 61 #[.pointer (some ⟨b2, 0, none⟩)] (fun x : Int => #[Value.int .i64 x]) (Below n₀) (fun ys => ys = zs) (fun _ => True) zs.length w := fun l J Jx W hW hJ hJx hY hj => by
  obtain ⟨h1, a, cap, h2, h3⟩ := hV.below (hW.mono hn₀)
  exact values1_in dp hn l b2 n₀ a cap zs hl J Jx hY W h2 h3 hj

set_option maxRecDepth 100000 in
set_option maxHeartbeats 2000000 in
theorem appSeq_in (dp : Nat) (hd : 3 ≤ dp) (b2 : Nat) (zs : List Int) (hl : zs.length ≤ 100000) (w : World) (hV : ValsOf w.heap.size b2 zs w) :
    CallsIn Fence.wide dp Try.prog 82 #[.slice none 0 0, .func (.func 61) #[] #[.pointer (some ⟨b2, 0, none⟩)]] w (ZOut w zs) := by
  obtain ⟨i0, hi, hz0, hz1, hz2⟩ := info_parts infoI
  refine callsIn_of_wp_marks Try.func82 rfl trivial ?_ rfl
  simp only [Try.ntmps82, List.size_toArray, List.length_cons, List.length_nil, Nat.reduceAdd, Nat.reduceSub, Array.replicate_succ, Array.replicate_zero, List.push_toArray, List.append_toArray, List.nil_append, List.cons_append]
  gi_wp2_with fail
  have bO := Boxed.new w 46 (.slice none 0 0)
  have hB0 : Below w.heap.size w (w.alloc (.cells #[.slice none 0 0] 46)) := (Below.refl _ w).alloc (Nat.le_refl _) _
  have hz0' : (w.alloc (.cells #[.slice none 0 0] 46)).heap.size = w.heap.size + 1 := by simp only [World.size_alloc]
  have hV0 := hV.below hB0
  generalize hW0 : w.alloc (.cells #[.slice none 0 0] 46) = W0 at *
  clear hW0
  refine wpIn_rangeFunc_ownG rfl (by omega) (gf := 61) (lb := #[.pointer (some ⟨b2, 0, none⟩)]) rfl trivial (enters_of Try.func61 (by kernel_rfl) rfl)
    (values_stops (dp - 1) (by omega) w.heap.size b2 zs (by omega) W0 (by omega) hV0) belowK_t (belowK_b (by omega)) (Below.refl _ _) (fun _ => rfl)
    (fun pre W => (∃ v, Boxed W w.heap.size 46 v ∧ W.ownsRow w.heap.size 3 1 v pre.length (ic pre) ∧ True) ∧ Below w.heap.size w W)
    (fun _ _ _ => False)
    (OwnFrom.and (Own.from (holdsRow_own w.heap.size w.heap.size 46 3 1 (fun pre => pre.length) (fun pre => ic pre) (fun _ _ => True)) _) (ownFrom_below (Nat.le_refl _) (by omega)))
    (fun _ _ _ _ _ hs _ _ => hs)
    ⟨⟨_, bO, World.ownsRow_nil _ _ _ _, trivial⟩, hB0⟩
    (fun x => { tmps := #[.slice none 0 0, .func (.func 61) #[] #[.pointer (some ⟨b2, 0, none⟩)], .pointer (some ⟨w.heap.size, 0, none⟩), undef, .slice none 0 0, .int .i64 x, .func (.func 61) #[] #[.pointer (some ⟨b2, 0, none⟩)], .int .i64 x, undef, undef, undef, undef, undef], defers := [] })
    ?assign ?body ?done ?stop
  case assign =>
    intro l x W K hK
    gi_wp2
    exact hK
  case body =>
    rintro l pre x W ⟨⟨v, hv, hrow, _⟩, hB⟩ hlt
    have hc := hv.cell
    have hsz : pre.length + 1 ≤ 100000 := by omega
    gi_wp2_with (gi_at_builtin; refine wpListIn_append_own _ rfl _ _ 46 rfl w.heap.size 3 i0 (.int .i64 0) 1 8 Try.underlying46 hi hz0 hz1 hz2 rfl (by decide) _ _ _ rfl (hrow.alloc _) ⟨W.heap.size, 0, none⟩ 1 1 [.int .i64 x] rfl rfl (cell_one_new2 _ _ _) (by simp [Value.oneCell']) (by simp only [maxLen]; omega) (by omega) (by have := hB.size; simp; omega) ?_; intro v' w1 hown' hgrow _; obtain ⟨g', cap', rfl⟩ := ownsRow_succ hown'; obtain ⟨hv1, hv2, hr2, hk2, hb2⟩ := hv.appended (by decide) hrow hB.size (Nat.le_refl _) hown' hgrow; have hc1 := hv1.cell; have hf1 := hv1.frozen)
    exact ⟨hk2.from _, hb2, ⟨_, hv2, by rw [ic_snoc, List.length_append]; exact hr2, trivial⟩, hB.trans hb2⟩
  case done =>
    rintro D ys W hD rfl ⟨⟨v, hv, hrow, _⟩, hB⟩ hK
    have hc := hv.cell
    obtain ⟨A', c', rfl⟩ := own_form hrow
    gi_wp2
    refine ⟨by simp, .inl ⟨_, _, rfl, run_takeDeferred hK, ?_⟩⟩
    exact ⟨_, results_tmp rfl _ _ _, .slice A' ys.length c', rfl, ownsRow_putObj hrow _ hK rfl, hB.trans (belowK_b (w := w) (Nat.le_refl _) W D _ _ (by omega) hK rfl rfl)⟩
  case stop =>
    rintro D c pre W _ _ h _
    exact h.elim
theorem collect_in (dp : Nat) (hd : 4 ≤ dp) (b2 : Nat) (zs : List Int) (hl : zs.length ≤ 100000) (w : World) (hV : ValsOf w.heap.size b2 zs w) :
    CallsIn Fence.wide dp Try.prog 59 #[.func (.func 61) #[] #[.pointer (some ⟨b2, 0, none⟩)]] w (ZOut w zs) := by
  have HA := Lib.hid (appSeq_in (dp - 1) (by omega) b2 zs hl w hV)
  refine callsIn_of_wp Try.func59 rfl trivial ?_ rfl
  simp only [Try.ntmps59, List.size_toArray, List.length_cons, List.length_nil, Nat.reduceAdd, Nat.reduceSub, Array.replicate_succ, Array.replicate_zero, List.push_toArray, List.append_toArray, List.nil_append, List.cons_append]
  gi_wp2_with fail
  refine ⟨trivial, fun _ => by omega, ?_⟩
  refine HA.out.mono ?_
  rintro e w1 ⟨v, rfl, ho, hb⟩
  gi_wp2
  go_ret
  exact ⟨_, rfl, ho, hb⟩
/-- Sorted in place. -/
theorem sortz_any (l : List Int) (hl : l.length ≤ 100000) (n₀ : Nat) (v : Value) (w : World) (hO : w.ownsRow n₀ 3 1 v l.length (ic l)) :
    Calls Try.prog 60 #[v] w fun e w' => e = .returned (.tuple #[]) ∧ w'.ownsRow n₀ 3 1 v l.length (ic (l.mergeSort fun x y => decide (x ≤ y))) ∧ w.grownBy w' v.ownBlock := by
  have hr := hO
  rcases hr.2 with ⟨rfl, hz⟩ | ⟨g, cap, cur, rfl, hbase, hg, h1, h2, h3, h4⟩
  · have : l = [] := List.eq_nil_of_length_eq_zero hz
    subst this
    refine (AnyM.slices_Sort_int_none Try.sortA none 0 w).mono ?_
    rintro e w' ⟨rfl, rfl⟩
    exact ⟨rfl, by simpa using hO, World.grownBy.refl _ _⟩
  · have hH : Holds (Value.int .i64) w g 0 l.toArray := holds_of_blockI hg (by rw [Nat.mul_one] at h4; exact h4)
    refine (AnyM.slices_Sort_int Try.sortA g 0 cap l w hH (Array.getElem?_eq_some_iff.1 hg).1 (by omega)).mono ?_
    rintro e w' ⟨rfl, nn, os, rfl⟩
    refine ⟨rfl, ?_, grownBy_sortedI _⟩
    have hlen : (l.mergeSort fun x y => decide (x ≤ y)).length = l.length := (List.mergeSort_perm l _).length_eq
    exact ownsRow_sortedI (n := nn) (os := os) (ts := l.mergeSort fun x y => decide (x ≤ y)) (ss := l) hlen hbase hg h1 h2 h3
theorem sorted_in (b2 : Nat) (zs : List Int) (hl : zs.length ≤ 100000) (w : World) (hV : ValsOf w.heap.size b2 zs w) :
    CallsIn Fence.wide 6 Try.prog 36 #[.func (.func 61) #[] #[.pointer (some ⟨b2, 0, none⟩)]] w fun e w' => ∃ v, e = .returned v ∧ w'.ownsRow w.heap.size 3 1 v zs.length (ic (zs.mergeSort fun x y => decide (x ≤ y))) ∧ Below w.heap.size w w' := by
  have HC := Lib.hid (collect_in 5 (by omega) b2 zs hl w hV)
  have HS := Lib.hid (fun v W h => sortz_any zs hl w.heap.size v W h)
  refine callsIn_of_wp Try.func36 rfl trivial ?_ rfl
  simp only [Try.ntmps36, List.size_toArray, List.length_cons, List.length_nil, Nat.reduceAdd, Nat.reduceSub, Array.replicate_succ, Array.replicate_zero, List.push_toArray, List.append_toArray, List.nil_append, List.cons_append]
  gi_wp2_with fail
  refine ⟨trivial, ?_⟩
  refine HC.out.mono ?_
  rintro e w1 ⟨v, rfl, ho, hb⟩
  obtain ⟨A', c', rfl⟩ := own_form ho
  gi_wp2_with fail
  refine ⟨trivial, ?_⟩
  refine (callsIn_wide.2 (HS.out _ _ ho)).mono ?_
  rintro e w2 ⟨rfl, ho2, hg⟩
  gi_wp2
  go_ret
  exact ⟨_, rfl, ho2, hb.grown hg hb.size (fun k hk => (ho.lt k hk).1)⟩
/-- The numbers of a list, sorted: slices.Sorted(slices.Values(l)). -/
theorem sortedV_any (A : Option Addr) (c : Nat) (zs : List Int) (hl : zs.length ≤ 100000) (w : World) (hA : LI w w.heap.size A zs) :
    Calls Try.prog 37 #[.slice A zs.length c] w fun e w' => e = .returned (.func (.func 61) #[] #[.pointer (some ⟨w.heap.size, 0, none⟩)]) ∧ w' = w.alloc (.cells #[.slice A zs.length c] 46) :=
  callsIn_wide.1 (values_in 6 A zs.length c w)
theorem sortedW_any (A : Option Addr) (c : Nat) (zs : List Int) (hl : zs.length ≤ 100000) (w : World) (hA : LI w w.heap.size A zs) :
    Calls Try.prog 36 #[.func (.func 61) #[] #[.pointer (some ⟨w.heap.size, 0, none⟩)]] (w.alloc (.cells #[.slice A zs.length c] 46)) fun e w' => ∃ B k, e = .returned (.slice B zs.length k) ∧ LI w' w'.heap.size B (zs.mergeSort fun x y => decide (x ≤ y)) ∧ Below w.heap.size w w' := by
  have hb : Below w.heap.size w (w.alloc (.cells #[.slice A zs.length c] 46)) := (Below.refl _ _).alloc (Nat.le_refl _) _
  have hV : ValsOf (w.alloc (.cells #[.slice A zs.length c] 46)).heap.size w.heap.size zs (w.alloc (.cells #[.slice A zs.length c] 46)) := by
    refine ⟨by simp, A, c, by simp, fun hp => ?_⟩
    obtain ⟨b, off, e, hlt, hc⟩ := (hA.up hb) (by intro e; rw [e] at hp; simp at hp)
    exact ⟨b, off, e, hlt, fun j hj => by rw [List.getElem?_eq_getElem hj]; exact hc j hj⟩
  refine (callsIn_wide.1 (sorted_in w.heap.size zs hl _ hV)).mono ?_
  rintro e w' ⟨v, rfl, ho, hb2⟩
  obtain ⟨B, k, rfl⟩ := own_form ho
  have hlen : (zs.mergeSort fun x y => decide (x ≤ y)).length = zs.length := (List.mergeSort_perm zs _).length_eq
  refine ⟨B, k, rfl, own_LI (by rw [hlen]; exact ho), hb.trans (hb2.mono hb.size)⟩
end Go.Proofs.Ytffnopdpndpngaa.Lh
