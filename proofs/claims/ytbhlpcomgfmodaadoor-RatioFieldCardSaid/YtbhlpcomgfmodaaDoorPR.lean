/- The program's Sub, Div, Compare, Floor. -/
import Derived.Test.YtbhlpcomgfmodaaDoorPQ
set_option linter.unusedVariables false
set_option linter.unusedSimpArgs false
namespace Go.Proofs.YtbhlpcomgfmodaaDoor.Pro
open Go.RowKit

theorem opOut_form (q : _root_.Rat → _root_.Rat → _root_.Rat) (n1 d1 n2 d2 : Int) : ∃ a b x : Int, Rat.opOut q n1 d1 n2 d2 = .tuple #[.agg #[.int .i64 a, .int .i64 b], .int .i64 x] := by
  unfold Rat.opOut
  split
  · exact Rat.pairOut_form _ _
  · exact ⟨0, 0, 1, rfl⟩
set_option maxHeartbeats 1000000 in
set_option maxRecDepth 100000 in
theorem sub_raw (n1 d1 n2 d2 m a b x : Int) (hm : IntKind.i64.wrap (-n2) = m) (AD : Hid (∀ w : World, Calls Tryd.prog 20 #[.agg #[.int .i64 n1, .int .i64 d1], .agg #[.int .i64 m, .int .i64 d2]] w fun e w' => e = .returned (.tuple #[.agg #[.int .i64 a, .int .i64 b], .int .i64 x]) ∧ Below w.heap.size w w')) (w : World) :
    Calls Tryd.prog 22 #[.agg #[.int .i64 n1, .int .i64 d1], .agg #[.int .i64 n2, .int .i64 d2]] w fun e w' => e = .returned (.tuple #[.agg #[.int .i64 a, .int .i64 b], .int .i64 x]) ∧ Below w.heap.size w w' := by
  go_enter Tryd.func22, Tryd.ntmps22
  go_wp2_with fail
  with_reducible refine (AD.out _).mono ?_
  rintro e w1 ⟨rfl, hb1⟩
  have T1 := Lib.hid (((((Has.start w).alloc #[.int .i64 n1, .int .i64 d1] 23).alloc #[.int .i64 n2, .int .i64 d2] 23).alloc #[.int .i64 0, .int .i64 0] 23).step hb1)
  simp only [World.size_alloc] at T1
  clear hb1 AD hm
  have hr := T1.out.row (b := w.heap.size + 1 + 1) (cs := #[.int .i64 0, .int .i64 0]) (t := 23) (by simp)
  obtain ⟨c0, c1⟩ := cells2 hr
  obtain ⟨f0, f1⟩ := frozen2 hr
  go_wp2
  have hC := heap_setCell_same _ _ 1 _ _ (.int .i64 b) (heap_setCell_same _ _ 0 _ _ (.int .i64 a) hr)
  refine bodyPost_ret (res_cell_tmp rfl _ _ (w.heap.size + 1 + 1) 23 _ (0, 0) _ rfl hC Tryd.underlying23 rfl info23) rfl ?_
  exact ⟨rfl, (T1.out.1.setCell (by simp; omega) _).setCell (by simp; omega) _⟩
theorem sub_add (n1 d1 n2 d2 : Int) (i3 : inI n2) : Rat.opOut (· - ·) n1 d1 n2 d2 = Rat.opOut (· + ·) n1 d1 (IntKind.i64.wrap (-n2)) d2 := by
  unfold inI at i3
  by_cases hmin : n2 = -9223372036854775808
  · have e : IntKind.i64.wrap (-n2) = n2 := by subst hmin; decide
    rw [e]
    have hn : ¬ (Rat.chk n1 d1 ∧ Rat.chk n2 d2) := fun h => by have := h.2.2.1; omega
    rw [Rat.opOut_no hn, Rat.opOut_no hn]
  · have e : IntKind.i64.wrap (-n2) = -n2 := IntWalk.i64_in _ (by omega)
    rw [e]
    by_cases h : Rat.chk n1 d1 ∧ Rat.chk n2 d2
    · obtain ⟨D2, rfl, hy⟩ := Rat.chk_nat h.2
      rw [Rat.opOut_yes h, Rat.opOut_yes ⟨h.1, Rat.chk_neg hy⟩, Rat.toQ_neg, _root_.Rat.sub_eq_add_neg]
    · have h' : ¬ (Rat.chk n1 d1 ∧ Rat.chk (-n2) d2) := fun hh => h ⟨hh.1, by
        obtain ⟨D2, rfl, hy⟩ := Rat.chk_nat hh.2
        have := Rat.chk_neg hy
        rwa [Int.neg_neg] at this⟩
      rw [Rat.opOut_no h, Rat.opOut_no h']
theorem wrap_inI (z : Int) : inI (IntKind.i64.wrap z) := by
  rw [IntKind.wrap_i64]; unfold inI; omega
theorem sub_any (n1 d1 n2 d2 : Int) (i1 : inI n1) (i2 : inI d1) (i3 : inI n2) (i4 : inI d2) (w : World) :
    Calls Tryd.prog 22 #[.agg #[.int .i64 n1, .int .i64 d1], .agg #[.int .i64 n2, .int .i64 d2]] w fun e w' => e = .returned (Rat.opOut (· - ·) n1 d1 n2 d2) ∧ Below w.heap.size w w' := by
  rw [sub_add n1 d1 n2 d2 i3]
  have AD := fun w => add_any n1 d1 (IntKind.i64.wrap (-n2)) d2 i1 i2 (wrap_inI _) i4 w
  obtain ⟨a, b, x, ho⟩ := opOut_form (· + ·) n1 d1 (IntKind.i64.wrap (-n2)) d2
  rw [ho] at AD ⊢
  exact sub_raw n1 d1 n2 d2 _ a b x rfl (Lib.hid AD) w

set_option maxHeartbeats 1000000 in
set_option maxRecDepth 100000 in
theorem compare_no (n1 d1 n2 d2 : Int) (VA : Hid (∀ w : World, Calls Tryd.prog 43 #[.agg #[.int .i64 n1, .int .i64 d1], .agg #[.int .i64 n2, .int .i64 d2]] w fun e w' => e = .returned (.bool false) ∧ Below w.heap.size w w')) (w : World) :
    Calls Tryd.prog 28 #[.agg #[.int .i64 n1, .int .i64 d1], .agg #[.int .i64 n2, .int .i64 d2]] w fun e w' => e = .returned (.int .i64 0) ∧ Below w.heap.size w w' := by
  go_enter Tryd.func28, Tryd.ntmps28
  go_wp2_with fail
  with_reducible refine (VA.out _).mono ?_
  rintro e w1 ⟨rfl, hb1⟩
  have T1 := Lib.hid (P2.step hb1 (P2.start w n1 d1 n2 d2))
  clear hb1 VA
  obtain ⟨_, u1, u2, u3, u4⟩ := T1.out.all
  go_wp2
  go_ret
  exact ⟨rfl, T1.out.has.1⟩
set_option maxHeartbeats 1000000 in
set_option maxRecDepth 100000 in
theorem compare_same (n1 d1 : Int) (VA : Hid (∀ w : World, Calls Tryd.prog 43 #[.agg #[.int .i64 n1, .int .i64 d1], .agg #[.int .i64 n1, .int .i64 d1]] w fun e w' => e = .returned (.bool true) ∧ Below w.heap.size w w')) (w : World) :
    Calls Tryd.prog 28 #[.agg #[.int .i64 n1, .int .i64 d1], .agg #[.int .i64 n1, .int .i64 d1]] w fun e w' => e = .returned (.int .i64 0) ∧ Below w.heap.size w w' := by
  go_enter Tryd.func28, Tryd.ntmps28
  go_wp2_with fail
  with_reducible refine (VA.out _).mono ?_
  rintro e w1 ⟨rfl, hb1⟩
  have T1 := Lib.hid (P2.step hb1 (P2.start w n1 d1 n1 d1))
  clear hb1 VA
  obtain ⟨_, u1, u2, u3, u4⟩ := T1.out.all
  go_wp2
  go_ret
  exact ⟨rfl, T1.out.has.1⟩
set_option maxHeartbeats 4000000 in
set_option maxRecDepth 100000 in
theorem compare_diff (n1 d1 n2 d2 a1 a2 b1 b2 : Int) (t : Bool) (hne : ¬ (n1 = n2 ∧ d1 = d2)) (VA : Hid (∀ w : World, Calls Tryd.prog 43 #[.agg #[.int .i64 n1, .int .i64 d1], .agg #[.int .i64 n2, .int .i64 d2]] w fun e w' => e = .returned (.bool true) ∧ Below w.heap.size w w'))
    (PA : Hid (∀ w : World, Calls Tryd.prog 44 #[.int .i64 n1, .int .i64 d2] w fun e w' => e = .returned (.agg #[.int .u64 a1, .int .u64 a2]) ∧ Below w.heap.size w w'))
    (PB : Hid (∀ w : World, Calls Tryd.prog 44 #[.int .i64 n2, .int .i64 d1] w fun e w' => e = .returned (.agg #[.int .u64 b1, .int .u64 b2]) ∧ Below w.heap.size w w'))
    (LE : Hid (∀ w : World, Calls Tryd.prog 51 #[.agg #[.int .u64 a1, .int .u64 a2], .agg #[.int .u64 b1, .int .u64 b2]] w fun e w' => e = .returned (.bool t) ∧ Below w.heap.size w w')) (w : World) :
    Calls Tryd.prog 28 #[.agg #[.int .i64 n1, .int .i64 d1], .agg #[.int .i64 n2, .int .i64 d2]] w fun e w' => e = .returned (.int .i64 (if t then -1 else 1)) ∧ Below w.heap.size w w' := by
  have hcases : (¬ n1 = n2) ∨ (n1 = n2 ∧ ¬ d1 = d2) := by
    by_cases h : n1 = n2
    · exact .inr ⟨h, fun h2 => hne ⟨h, h2⟩⟩
    · exact .inl h
  clear hne
  rcases hcases with hh | ⟨rfl, hh⟩
  · go_enter Tryd.func28, Tryd.ntmps28
    go_wp2_with fail
    with_reducible refine (VA.out _).mono ?_
    rintro e w1 ⟨rfl, hb1⟩
    have hk1 := P2k.mk (P2.step hb1 (P2.start w n1 d1 n2 d2))
    clear hb1 VA
    have h0 := hk1.out.all
    obtain ⟨_, u1, u2, u3, u4⟩ := h0
    go_upto_region 3 with fail
    have h0 := hk1.out.all
    clear u1 u2 u3 u4
    go_region_held3 (fun V => P2 w n1 d1 n2 d2 V ∧ V.cell? ⟨w.heap.size, 0, none⟩ = some (.int .i64 n1) ∧ V.cell? ⟨w.heap.size, 1, none⟩ = some (.int .i64 d1) ∧ V.cell? ⟨w.heap.size + 1, 0, none⟩ = some (.int .i64 n2) ∧ V.cell? ⟨w.heap.size + 1, 1, none⟩ = some (.int .i64 d2))
      ((refine P2.all ?_; (with_reducible repeat (first | exact P2k.out (by assumption) | apply P2.drew))))
      (first
        | (go_at_call 44; (with_reducible first | (refine (PA.out _).mono ?_) | (refine (PB.out _).mono ?_)); rintro e w' ⟨rfl, hb⟩; (have hk := P2k.mk (P2.step hb (by (with_reducible repeat (first | exact P2k.out (by assumption) | apply P2.drew))))))
        | (go_at_call 51; (with_reducible refine (LE.out _).mono ?_); rintro e w' ⟨rfl, hb⟩; (have hk := P2k.mk (P2.step hb (by (with_reducible repeat (first | exact P2k.out (by assumption) | apply P2.drew))))); (have HZ := Lib.hid hk)))
    cases t
    · go_wp2
      go_ret
      exact ⟨rfl, HZ.out.out.has.1⟩
    · go_wp2
      go_ret
      exact ⟨rfl, HZ.out.out.has.1⟩
  · go_enter Tryd.func28, Tryd.ntmps28
    go_wp2_with fail
    with_reducible refine (VA.out _).mono ?_
    rintro e w1 ⟨rfl, hb1⟩
    have hk1 := P2k.mk (P2.step hb1 (P2.start w n1 d1 n1 d2))
    clear hb1 VA
    have h0 := hk1.out.all
    obtain ⟨_, u1, u2, u3, u4⟩ := h0
    go_upto_region 3 with fail
    have h0 := hk1.out.all
    clear u1 u2 u3 u4
    go_region_held3 (fun V => P2 w n1 d1 n1 d2 V ∧ V.cell? ⟨w.heap.size, 0, none⟩ = some (.int .i64 n1) ∧ V.cell? ⟨w.heap.size, 1, none⟩ = some (.int .i64 d1) ∧ V.cell? ⟨w.heap.size + 1, 0, none⟩ = some (.int .i64 n1) ∧ V.cell? ⟨w.heap.size + 1, 1, none⟩ = some (.int .i64 d2))
      ((refine P2.all ?_; (with_reducible repeat (first | exact P2k.out (by assumption) | apply P2.drew))))
      (first
        | (go_at_call 44; (with_reducible first | (refine (PA.out _).mono ?_) | (refine (PB.out _).mono ?_)); rintro e w' ⟨rfl, hb⟩; (have hk := P2k.mk (P2.step hb (by (with_reducible repeat (first | exact P2k.out (by assumption) | apply P2.drew))))))
        | (go_at_call 51; (with_reducible refine (LE.out _).mono ?_); rintro e w' ⟨rfl, hb⟩; (have hk := P2k.mk (P2.step hb (by (with_reducible repeat (first | exact P2k.out (by assumption) | apply P2.drew))))); (have HZ := Lib.hid hk)))
    cases t
    · go_wp2
      go_ret
      exact ⟨rfl, HZ.out.out.has.1⟩
    · go_wp2
      go_ret
      exact ⟨rfl, HZ.out.out.has.1⟩
theorem compare_any (n1 d1 n2 d2 : Int) (i1 : inI n1) (i2 : inI d1) (i3 : inI n2) (i4 : inI d2) (w : World) :
    Calls Tryd.prog 28 #[.agg #[.int .i64 n1, .int .i64 d1], .agg #[.int .i64 n2, .int .i64 d2]] w fun e w' => e = .returned (.int .i64 (Rat.cmpOut n1 d1 n2 d2)) ∧ Below w.heap.size w w' := by
  unfold Rat.cmpOut
  by_cases h : Rat.chk n1 d1 ∧ Rat.chk n2 d2
  · rw [if_pos h]
    have VA := Lib.hid fun w => valid_yes n1 d1 n2 d2 h.1 h.2 w
    obtain ⟨D1, rfl, hx⟩ := Rat.chk_nat h.1
    obtain ⟨D2, rfl, hy⟩ := Rat.chk_nat h.2
    rw [Int.toNat_natCast, Int.toNat_natCast]
    clear h
    by_cases he : n1 = n2 ∧ (D1 : Int) = D2
    · obtain ⟨rfl, h2⟩ := he
      have h3 : D1 = D2 := by omega
      subst h3
      rw [if_neg (_root_.Rat.lt_irrefl), if_neg (_root_.Rat.lt_irrefl)]
      exact compare_same n1 D1 VA w
    · obtain ⟨b1, b2, b3, _, _⟩ := chk_bounds hx
      obtain ⟨b4, b5, b6, _, _⟩ := chk_bounds hy
      have f1 := far_two b1 b5
      have f2 := far_two b4 b2
      have h1 := compare_diff n1 D1 n2 D2 _ _ _ _ _ he VA (Lib.hid fun w => product_any n1 D2 i1 i4 w) (Lib.hid fun w => product_any n2 D1 i3 i2 w) (Lib.hid fun w => less_any (n1 * D2) (n2 * D1) (by unfold near; omega) w) w
      have e : (if decide (n1 * (D2 : Int) < n2 * (D1 : Int)) = true then (-1 : Int) else 1) = if Rat.toQ n1 D1 < Rat.toQ n2 D2 then -1 else if Rat.toQ n2 D2 < Rat.toQ n1 D1 then 1 else 0 := by
        by_cases hl : n1 * (D2 : Int) < n2 * (D1 : Int)
        · rw [decide_eq_true hl, if_pos rfl, if_pos ((Rat.toQ_lt hx hy).2 hl)]
        · rw [decide_eq_false hl, if_neg (mt (Rat.toQ_lt hx hy).1 hl)]
          have hne : n1 * (D2 : Int) ≠ n2 * (D1 : Int) := fun heq => he (by
            have h5 : Rat.toQ n1 D1 = Rat.toQ n2 D2 := by
              unfold Rat.toQ
              exact (_root_.Rat.mkRat_eq_iff (by omega) (by omega)).2 heq
            obtain ⟨h6, h7⟩ := Rat.toQ_eq hx hy h5
            exact ⟨h6, by omega⟩)
          rw [if_pos ((Rat.toQ_lt hy hx).2 (by omega))]
          simp
      rw [e] at h1
      exact h1
  · rw [if_neg h]
    exact compare_no n1 d1 n2 d2 (Lib.hid fun w => valid_no n1 d1 n2 d2 i1 i2 i3 i4 h w) w
end Go.Proofs.YtbhlpcomgfmodaaDoor.Pro
