/- The program's numbers of two words: the step of divide, where the remainder is taken away once more. -/
import Derived.Test.YtffnopdpndpngaaMPa
set_option linter.unusedVariables false
set_option linter.unusedSimpArgs false
namespace Go.Proofs.Ytffnopdpndpngaa.Pro
open Go.RowKit
set_option maxHeartbeats 40000000 in
set_option maxRecDepth 100000 in
theorem divide_stepB (a1 a2 b1 b2 c1 c2 q1 q2 r1 r2 s1 s2 u1 u2 v1 v2 : Int) (g : (a1 == 0) = false)
    (LT : Hid (∀ w : World, Calls Try.prog 106 #[.agg #[.int .u64 a1, .int .u64 a2], .agg #[.int .u64 b1, .int .u64 b2]] w fun e w' => e = .returned (.bool false) ∧ Below w.heap.size w w'))
    (PL : Hid (∀ w : World, Calls Try.prog 107 #[.agg #[.int .u64 b1, .int .u64 b2], .agg #[.int .u64 b1, .int .u64 b2]] w fun e w' => e = .returned (.agg #[.int .u64 c1, .int .u64 c2]) ∧ Below w.heap.size w w'))
    (DV : Hid (∀ w : World, Calls Try.prog 91 #[.agg #[.int .u64 a1, .int .u64 a2], .agg #[.int .u64 c1, .int .u64 c2]] w fun e w' => e = .returned (.tuple #[.agg #[.int .u64 q1, .int .u64 q2], .agg #[.int .u64 r1, .int .u64 r2]]) ∧ Below w.heap.size w w'))
    (PQ : Hid (∀ w : World, Calls Try.prog 107 #[.agg #[.int .u64 q1, .int .u64 q2], .agg #[.int .u64 q1, .int .u64 q2]] w fun e w' => e = .returned (.agg #[.int .u64 s1, .int .u64 s2]) ∧ Below w.heap.size w w'))
    (LR : Hid (∀ w : World, Calls Try.prog 106 #[.agg #[.int .u64 r1, .int .u64 r2], .agg #[.int .u64 b1, .int .u64 b2]] w fun e w' => e = .returned (.bool false) ∧ Below w.heap.size w w'))
    (W1 : Hid (∀ w : World, Calls Try.prog 88 #[.int .i64 1] w fun e w' => e = .returned (.agg #[.int .u64 0, .int .u64 1]) ∧ Below w.heap.size w w'))
    (PO : Hid (∀ w : World, Calls Try.prog 107 #[.agg #[.int .u64 s1, .int .u64 s2], .agg #[.int .u64 0, .int .u64 1]] w fun e w' => e = .returned (.agg #[.int .u64 u1, .int .u64 u2]) ∧ Below w.heap.size w w'))
    (MI : Hid (∀ w : World, Calls Try.prog 105 #[.agg #[.int .u64 r1, .int .u64 r2], .agg #[.int .u64 b1, .int .u64 b2]] w fun e w' => e = .returned (.agg #[.int .u64 v1, .int .u64 v2]) ∧ Below w.heap.size w w')) (w : World) :
    Calls Try.prog 91 #[.agg #[.int .u64 a1, .int .u64 a2], .agg #[.int .u64 b1, .int .u64 b2]] w fun e w' => e = .returned (.tuple #[.agg #[.int .u64 u1, .int .u64 u2], .agg #[.int .u64 v1, .int .u64 v2]]) ∧ Below w.heap.size w w' := by
  go_enter Try.func91, Try.ntmps91
  go_wp2_with fail
  refine (LT.out _).mono ?_
  rintro e w1 ⟨rfl, hb1⟩
  have T1 := ((E4.start w (.int .u64 a1) (.int .u64 a2) (.int .u64 b1) (.int .u64 b2) (.int .u64 0) (.int .u64 0) (.int .u64 0) (.int .u64 0)).step hb1).d4
  clear hb1 LT
  have h0 := T1.all
  clear T1
  go_wp2
  go_region_held3 (fun V => V.cell? ⟨w.heap.size, 0, none⟩ = some (.int .u64 a1) ∧ V.cell? ⟨w.heap.size, 1, none⟩ = some (.int .u64 a2) ∧ V.cell? ⟨w.heap.size + 1, 0, none⟩ = some (.int .u64 b1) ∧ V.cell? ⟨w.heap.size + 1, 1, none⟩ = some (.int .u64 b2) ∧ V.cell? ⟨w.heap.size + 1 + 1, 0, none⟩ = some (held V (w.heap.size + 1 + 1) 0) ∧ V.cell? ⟨w.heap.size + 1 + 1, 1, none⟩ = some (held V (w.heap.size + 1 + 1) 1) ∧ V.cell? ⟨w.heap.size + 1 + 1 + 1, 0, none⟩ = some (held V (w.heap.size + 1 + 1 + 1) 0) ∧ V.cell? ⟨w.heap.size + 1 + 1 + 1, 1, none⟩ = some (held V (w.heap.size + 1 + 1 + 1) 1) ∧ V.frozen? ⟨w.heap.size + 1 + 1, 0, none⟩ = false ∧ V.frozen? ⟨w.heap.size + 1 + 1, 1, none⟩ = false ∧ V.frozen? ⟨w.heap.size + 1 + 1 + 1, 0, none⟩ = false ∧ V.frozen? ⟨w.heap.size + 1 + 1 + 1, 1, none⟩ = false ∧ D4 w (.int .u64 a1) (.int .u64 a2) (.int .u64 b1) (.int .u64 b2) V)
      (with_reducible first | exact (D4.drew (D4.of (by assumption))).all | exact (D4.step2 (by assumption) (D4.of (by assumption))).all | exact (D4.setC _ _ (D4.of (by assumption))).all | exact (D4.setD _ _ (D4.of (by assumption))).all)
      (first | (go_at_call 107; refine (PL.out _).mono ?_; rintro e w' ⟨rfl, hb⟩) | (go_at_call 91; refine (DV.out _).mono ?_; rintro e w' ⟨rfl, hb⟩; have HZ := Lib.hid (D4.step (D4.of (by assumption)) hb)))
  have T2 := HZ.out.endCD (.int .u64 q1) (.int .u64 q2) (.int .u64 r1) (.int .u64 r2)
  clear HZ PL DV h0
  obtain ⟨w2, hw2⟩ : ∃ w2, w2 = ((((w'.setCell ⟨w.heap.size + 1 + 1, 0, none⟩ (.int .u64 q1)).setCell ⟨w.heap.size + 1 + 1, 1, none⟩ (.int .u64 q2)).setCell ⟨w.heap.size + 1 + 1 + 1, 0, none⟩ (.int .u64 r1)).setCell ⟨w.heap.size + 1 + 1 + 1, 1, none⟩ (.int .u64 r2)) := ⟨_, rfl⟩
  rw [← hw2] at T2 ⊢
  clear hw2
  obtain ⟨⟨x1, x2⟩, ⟨x3, x4⟩, ⟨x5, x6⟩, ⟨x7, x8⟩, ⟨x9, x10⟩, ⟨x11, x12⟩⟩ := T2.cells
  have H2 := Lib.hid T2
  clear T2
  go_wp2_with fail
  refine (PQ.out _).mono ?_
  rintro e w3 ⟨rfl, hb3⟩
  have T3 := H2.out.step hb3
  clear hb3 H2 PQ x1 x2 x3 x4 x5 x6 x7 x8 x9 x10 x11 x12
  obtain ⟨⟨x1, x2⟩, ⟨x3, x4⟩, ⟨x5, x6⟩, ⟨x7, x8⟩, ⟨x9, x10⟩, ⟨x11, x12⟩⟩ := T3.cells
  have H3 := Lib.hid (T3.setC (.int .u64 s1) (.int .u64 s2))
  clear T3
  go_wp2_with fail
  refine (LR.out _).mono ?_
  rintro e w4 ⟨rfl, hb4⟩
  have T4 := H3.out.step hb4
  clear hb4 H3 LR x1 x2 x3 x4 x5 x6 x7 x8 x9 x10 x11 x12
  obtain ⟨⟨x1, x2⟩, ⟨x3, x4⟩, ⟨x5, x6⟩, ⟨x7, x8⟩, ⟨x9, x10⟩, ⟨x11, x12⟩⟩ := T4.cells
  go_upto_region 8 with fail
  go_cut [] from 46 to 51 (fun wx => E4 w (.int .u64 a1) (.int .u64 a2) (.int .u64 b1) (.int .u64 b2) (.int .u64 u1) (.int .u64 u2) (.int .u64 v1) (.int .u64 v2) wx)
  case first =>
    go_region_with (first
      | (go_at_call 88; refine (W1.out _).mono ?_; rintro e w' ⟨rfl, hb⟩; have nb := E4.step2 hb (by with_reducible repeat (first | assumption | apply E4.drew)); obtain ⟨⟨_, _⟩, ⟨_, _⟩, ⟨_, _⟩, ⟨_, _⟩, ⟨_, _⟩, ⟨_, _⟩⟩ := nb.cells)
      | (go_at_call 107; refine (PO.out _).mono ?_; rintro e w' ⟨rfl, hb⟩; have nb := E4.step2 hb (by with_reducible repeat (first | assumption | apply E4.drew)); obtain ⟨⟨_, _⟩, ⟨_, _⟩, ⟨_, _⟩, ⟨_, _⟩, ⟨_, _⟩, ⟨_, _⟩⟩ := nb.cells)
      | (go_at_call 105; refine (MI.out _).mono ?_; rintro e w' ⟨rfl, hb⟩; have nb := E4.step2 hb (by with_reducible repeat (first | assumption | apply E4.drew)); obtain ⟨⟨_, _⟩, ⟨_, _⟩, ⟨_, _⟩, ⟨_, _⟩, ⟨_, _⟩, ⟨_, _⟩⟩ := nb.cells))
    all_goals go_wp2
    all_goals go_meet
    all_goals (with_reducible (repeat (apply E4.drew)); exact E4.setD _ _ (E4.setC _ _ (by with_reducible repeat (first | assumption | apply E4.drew))))
  case rest =>
    have T := Lib.hid hcut
    obtain ⟨⟨_, _⟩, ⟨_, _⟩, ⟨_, _⟩, ⟨_, _⟩, ⟨_, _⟩, ⟨_, _⟩⟩ := hcut.cells
    clear hcut
    go_wp2
    go_region
    go_wp2
    have T5 := ((T.out.setC (.int .u64 u1) (.int .u64 u2)).setD (.int .u64 v1) (.int .u64 v2)).drew
    refine bodyPost_ret (res_two rfl _ _ (w.heap.size + 1 + 1) (w.heap.size + 1 + 1 + 1) 96 _ _ _ rfl rfl T5.rowC T5.rowD Try.underlying96 rfl info46 info46) rfl ?_
    exact ⟨rfl, T5.1⟩
end Go.Proofs.Ytffnopdpndpngaa.Pro
