/- What every law asks at its end: the chapter's examples. -/
import Derived.Test.YtbhlpcomgfmodaaDoorPS
import Derived.Test.YtbhlpcomgfmodaaDoorPT
set_option linter.unusedVariables false
set_option linter.unusedSimpArgs false
namespace Go.Proofs.YtbhlpcomgfmodaaDoor.Pro
open Go.RowKit

theorem Has.b {w V : World} {L : List (Nat × Array Value × TypeId)} (h : Has w L V) : Below w.heap.size w V := h.1
theorem ex1 : Rat.makeOut 6 (-8) = .tuple #[.agg #[.int .i64 (-3), .int .i64 4], .int .i64 0] := by rfl
theorem ex2 : Rat.makeOut 1 6 = .tuple #[.agg #[.int .i64 1, .int .i64 6], .int .i64 0] := by rfl
theorem ex3 : Rat.makeOut 1 10 = .tuple #[.agg #[.int .i64 1, .int .i64 10], .int .i64 0] := by rfl
theorem c16 : Rat.chk 1 6 := by unfold Rat.chk; decide
theorem c110 : Rat.chk 1 10 := by unfold Rat.chk; decide
theorem cb1 : Rat.chk 1152921504606846976 1 := by unfold Rat.chk; decide
theorem c1b : Rat.chk 1 1152921504606846976 := by unfold Rat.chk; decide
theorem c11 : Rat.chk 1 1 := by unfold Rat.chk; decide
theorem c34 : Rat.chk (-3) 4 := by unfold Rat.chk; decide
theorem ex4 : Rat.opOut (· + ·) 1 6 1 10 = .tuple #[.agg #[.int .i64 4, .int .i64 15], .int .i64 0] := by
  rw [Rat.opOut_yes ⟨c16, c110⟩]
  have h := make_add (n1 := 1) (n2 := 1) (D1 := 6) (D2 := 10) (by decide) (by decide)
  rw [show (6 : Int).toNat = 6 from rfl, show (10 : Int).toNat = 10 from rfl, ← h]
  rfl
theorem ex5 : Rat.opOut (· * ·) 1152921504606846976 1 1 1152921504606846976 = .tuple #[.agg #[.int .i64 1, .int .i64 1], .int .i64 0] := by
  rw [Rat.opOut_yes ⟨cb1, c1b⟩]
  have h := make_mul (n1 := 1152921504606846976) (n2 := 1) (D1 := 1) (D2 := 1152921504606846976) (by decide) (by decide)
  rw [show (1 : Int).toNat = 1 from rfl, show (1152921504606846976 : Int).toNat = 1152921504606846976 from rfl, ← h]
  rfl
theorem ex6 : Rat.opOut (· + ·) 1152921504606846976 1 1 1 = .tuple #[.agg #[.int .i64 0, .int .i64 0], .int .i64 14] := by
  rw [Rat.opOut_yes ⟨cb1, c11⟩]
  have h := make_add (n1 := 1152921504606846976) (n2 := 1) (D1 := 1) (D2 := 1) (by decide) (by decide)
  rw [show (1 : Int).toNat = 1 from rfl, ← h]
  rfl
theorem ex7 : Rat.fmtS (-3) 4 = ⟨#[45, 51, 47, 52]⟩ := by
  unfold Rat.fmtS Rat.fmtL
  rw [if_pos c34]
  have h3 : Rat.decL 3 = [51] := by rw [Rat.decL_small (by decide)]; rfl
  have h4 : Rat.decL 4 = [52] := by rw [Rat.decL_small (by decide)]; rfl
  rw [show (-3 : Int).natAbs = 3 from rfl, show (4 : Int).natAbs = 4 from rfl, h3, h4]
  rfl
set_option maxHeartbeats 4000000 in
set_option maxRecDepth 100000 in
theorem awake_any (w : World) (ht : T10 w) : Calls Tryd.prog 19 #[] w fun e w' => e = .returned (.bool true) ∧ Below w.heap.size w w' := by
  have HT := Lib.hid ht
  have m1 := fun w => make_any 6 (-8) (by unfold inI; omega) (by unfold inI; omega) (by decide) w
  have m2 := fun w => make_any 1 6 (by unfold inI; omega) (by unfold inI; omega) (by decide) w
  have m3 := fun w => make_any 1 10 (by unfold inI; omega) (by unfold inI; omega) (by decide) w
  have m4 := fun w => add_any 1 6 1 10 (by unfold inI; omega) (by unfold inI; omega) (by unfold inI; omega) (by unfold inI; omega) w
  have m5 := fun w => mul_any 1152921504606846976 1 1 1152921504606846976 (by unfold inI; omega) (by unfold inI; omega) (by unfold inI; omega) (by unfold inI; omega) w
  have m6 := fun w => add_any 1152921504606846976 1 1 1 (by unfold inI; omega) (by unfold inI; omega) (by unfold inI; omega) (by unfold inI; omega) w
  have m7 := fun w => floor_yes (-3) 4 c34 w
  have m8 := fun w h => format_any (-3) 4 (by unfold inI; omega) (by unfold inI; omega) w h
  rw [ex1] at m1
  rw [ex2] at m2
  rw [ex3] at m3
  rw [ex4] at m4
  rw [ex5] at m5
  rw [ex6] at m6
  rw [ex7] at m8
  rw [show (-3 : Int) / ((4 : Nat) : Int) = -1 from rfl, show ((4 : Nat) : Int) = 4 from rfl] at m7
  have N1 := Lib.hid m1
  have N2 := Lib.hid m2
  have N3 := Lib.hid m3
  have N4 := Lib.hid m4
  have N5 := Lib.hid m5
  have N6 := Lib.hid m6
  have N7 := Lib.hid m7
  have N8 := Lib.hid m8
  clear m1 m2 m3 m4 m5 m6 m7 m8 ht
  go_enter Tryd.func19, Tryd.ntmps19
  go_wp2_with fail
  with_reducible refine (N1.out _).mono ?_
  rintro e x1 ⟨rfl, hb1⟩
  have T1a := ((Has.start w).step hb1).alloc #[.int .i64 (-3), .int .i64 4] 23
  have T1 := Lib.hid T1a
  clear hb1 T1a
  go_upto_region 2 with fail
  generalize x1.alloc (.cells #[.int .i64 (-3), .int .i64 4] 23) = y1 at *
  generalize x1.heap.size = g1 at *
  go_wp2_with fail
  with_reducible refine (N2.out _).mono ?_
  rintro e x2 ⟨rfl, hb2⟩
  have T2a := (T1.out.step hb2).alloc #[.int .i64 1, .int .i64 6] 23
  have T2 := Lib.hid T2a
  clear hb2 T2a T1
  go_upto_region 3 with fail
  generalize x2.alloc (.cells #[.int .i64 1, .int .i64 6] 23) = y2 at *
  generalize x2.heap.size = g2 at *
  go_wp2_with fail
  with_reducible refine (N3.out _).mono ?_
  rintro e x3 ⟨rfl, hb3⟩
  have T3a := (T2.out.step hb3).alloc #[.int .i64 1, .int .i64 10] 23
  have T3 := Lib.hid T3a
  clear hb3 T3a T2
  go_upto_region 4 with fail
  generalize x3.alloc (.cells #[.int .i64 1, .int .i64 10] 23) = y3 at *
  generalize x3.heap.size = g3 at *
  obtain ⟨lg20, lg21⟩ := cells2 (T3.out.row (b := g2) (cs := #[.int .i64 1, .int .i64 6]) (t := 23) (by simp))
  obtain ⟨lg30, lg31⟩ := cells2 (T3.out.row (b := g3) (cs := #[.int .i64 1, .int .i64 10]) (t := 23) (by simp))
  go_wp2_with fail
  with_reducible refine (N4.out _).mono ?_
  rintro e x4 ⟨rfl, hb4⟩
  have T4a := (T3.out.step hb4).alloc #[.int .i64 4, .int .i64 15] 23
  have T4b := T4a.alloc #[.int .i64 1152921504606846976, .int .i64 1] 23
  rw [World.size_alloc] at T4b
  have T4 := Lib.hid T4b
  clear hb4 T3 T4a T4b lg20 lg21 lg30 lg31
  go_upto_region 6 with fail
  generalize (x4.alloc (.cells #[.int .i64 4, .int .i64 15] 23)).alloc (.cells #[.int .i64 1152921504606846976, .int .i64 1] 23) = y4 at *
  obtain ⟨g9, hg9⟩ : ∃ g9, g9 = x4.heap.size + 1 := ⟨_, rfl⟩
  rw [← hg9] at T4 ⊢
  clear hg9
  generalize x4.heap.size = g4 at *
  obtain ⟨lg90, lg91⟩ := cells2 (T4.out.row (b := g9) (cs := #[.int .i64 1152921504606846976, .int .i64 1]) (t := 23) (by simp))
  go_wp2_with fail
  with_reducible refine (N5.out _).mono ?_
  rintro e x5 ⟨rfl, hb5⟩
  have T5a := (T4.out.step hb5).alloc #[.int .i64 1, .int .i64 1] 23
  have T5 := Lib.hid T5a
  clear hb5 T5a T4 lg90 lg91
  go_upto_region 7 with fail
  generalize x5.alloc (.cells #[.int .i64 1, .int .i64 1] 23) = y5 at *
  generalize x5.heap.size = g5 at *
  obtain ⟨lg90, lg91⟩ := cells2 (T5.out.row (b := g9) (cs := #[.int .i64 1152921504606846976, .int .i64 1]) (t := 23) (by simp))
  go_wp2_with fail
  with_reducible refine (N6.out _).mono ?_
  rintro e x6 ⟨rfl, hb6⟩
  have T6a := (T5.out.step hb6).alloc #[.int .i64 0, .int .i64 0] 23
  have T6 := Lib.hid T6a
  clear hb6 T6a T5 lg90 lg91
  go_upto_region 8 with fail
  generalize x6.alloc (.cells #[.int .i64 0, .int .i64 0] 23) = y6 at *
  generalize x6.heap.size = g6 at *
  obtain ⟨a0, a1⟩ := cells2 (T6.out.row (b := g1) (cs := #[.int .i64 (-3), .int .i64 4]) (t := 23) (by simp))
  obtain ⟨b0, b1⟩ := cells2 (T6.out.row (b := g4) (cs := #[.int .i64 4, .int .i64 15]) (t := 23) (by simp))
  obtain ⟨c0, c1⟩ := cells2 (T6.out.row (b := g5) (cs := #[.int .i64 1, .int .i64 1]) (t := 23) (by simp))
  go_wp2_with fail
  with_reducible refine (N7.out _).mono ?_
  rintro e x7 ⟨rfl, hb7⟩
  have T7 := Lib.hid (T6.out.step hb7)
  clear hb7 T6 a0 a1 b0 b1 c0 c1
  obtain ⟨a0, a1⟩ := cells2 (T7.out.row (b := g1) (cs := #[.int .i64 (-3), .int .i64 4]) (t := 23) (by simp))
  go_wp2_with fail
  with_reducible refine (N8.out _ (HT.out.below (Has.b T7.out))).mono ?_
  rintro e x8 ⟨rfl, hb8⟩
  have T8 := Lib.hid (T7.out.step hb8)
  go_wp2
  go_ret
  exact ⟨rfl, Has.b T8.out⟩
end Go.Proofs.YtbhlpcomgfmodaaDoor.Pro
