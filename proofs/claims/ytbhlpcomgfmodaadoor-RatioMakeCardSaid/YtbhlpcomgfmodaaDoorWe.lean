/- The walks of the laws of layer 3: Make. -/
import Derived.Test.YtbhlpcomgfmodaaDoorWr
import Derived.Test.YtbhlpcomgfmodaaDoorPX
set_option linter.unusedVariables false
set_option linter.unusedSimpArgs false
namespace Go.Proofs.YtbhlpcomgfmodaaDoor.Pro
open Go.RowKit

/-- The blocks of a law, as a region carries them. -/
structure HL (w : World) (L : List (Nat × Array Value × TypeId)) (V : World) : Prop where
  has : Has w L V
structure HLk (w : World) (L : List (Nat × Array Value × TypeId)) (V : World) : Prop where
  out : HL w L V
theorem HL.step {w V V2 : World} {L : List (Nat × Array Value × TypeId)} (hb : Below V.heap.size V V2) (h : HL w L V) : HL w L V2 := ⟨h.has.step hb⟩
theorem HL.drew {w V : World} {L : List (Nat × Array Value × TypeId)} (h : HL w L V) : HL w L V.drew := ⟨h.has.drew⟩
theorem HL.t10 {w V : World} {L : List (Nat × Array Value × TypeId)} (ht : T10 w) (h : HL w L V) : T10 V := ht.below h.has.1
theorem HL.all3 {w V : World} {g1 g2 g3 : Nat} {a1 b1 a2 b2 a3 b3 : Int}
    (h : HL w [(g1, #[.int .i64 a1, .int .i64 b1], 23), (g2, #[.int .i64 a2, .int .i64 b2], 23), (g3, #[.int .i64 a3, .int .i64 b3], 23)] V) :
    HL w [(g1, #[.int .i64 a1, .int .i64 b1], 23), (g2, #[.int .i64 a2, .int .i64 b2], 23), (g3, #[.int .i64 a3, .int .i64 b3], 23)] V ∧
      V.cell? ⟨g1, 0, none⟩ = some (.int .i64 a1) ∧ V.cell? ⟨g1, 1, none⟩ = some (.int .i64 b1) ∧ V.cell? ⟨g2, 0, none⟩ = some (.int .i64 a2) ∧ V.cell? ⟨g2, 1, none⟩ = some (.int .i64 b2) ∧
      V.cell? ⟨g3, 0, none⟩ = some (.int .i64 a3) ∧ V.cell? ⟨g3, 1, none⟩ = some (.int .i64 b3) :=
  have h1 := cells2 (h.has.row (b := g1) (cs := #[.int .i64 a1, .int .i64 b1]) (t := 23) (by simp))
  have h2 := cells2 (h.has.row (b := g2) (cs := #[.int .i64 a2, .int .i64 b2]) (t := 23) (by simp))
  have h3 := cells2 (h.has.row (b := g3) (cs := #[.int .i64 a3, .int .i64 b3]) (t := 23) (by simp))
  ⟨h, h1.1, h1.2, h2.1, h2.2, h3.1, h3.2⟩
theorem makeOut_form (n d : Int) : ∃ a b x : Int, Rat.makeOut n d = .tuple #[.agg #[.int .i64 a, .int .i64 b], .int .i64 x] := by
  unfold Rat.makeOut Rat.pairOut Rat.rat
  split
  · exact ⟨_, _, _, rfl⟩
  · exact ⟨_, _, _, rfl⟩
set_option maxHeartbeats 4000000 in
set_option maxRecDepth 100000 in
theorem mlaw_raw (n d a b x xn xd c fl : Int) (t : ByteArray)
    (M1 : Hid (∀ w : World, Calls Tryd.prog 11 #[.int .i64 n, .int .i64 d] w fun e w' => e = .returned (.tuple #[.agg #[.int .i64 a, .int .i64 b], .int .i64 x]) ∧ Below w.heap.size w w'))
    (M2 : Hid (∀ w : World, Calls Tryd.prog 12 #[.int .i64 n, .int .i64 d] w fun e w' => e = .returned (.tuple #[.agg #[.int .i64 a, .int .i64 b], .int .i64 x]) ∧ Below w.heap.size w w'))
    (C1 : Hid (∀ w : World, Calls Tryd.prog 13 #[.agg #[.int .i64 xn, .int .i64 xd]] w fun e w' => e = .returned (.int .i64 c) ∧ Below w.heap.size w w'))
    (C2 : Hid (∀ w : World, Calls Tryd.prog 14 #[.agg #[.int .i64 xn, .int .i64 xd]] w fun e w' => e = .returned (.int .i64 c) ∧ Below w.heap.size w w'))
    (F1 : Hid (∀ w : World, Calls Tryd.prog 15 #[.agg #[.int .i64 xn, .int .i64 xd]] w fun e w' => e = .returned (.int .i64 fl) ∧ Below w.heap.size w w'))
    (F2 : Hid (∀ w : World, Calls Tryd.prog 16 #[.agg #[.int .i64 xn, .int .i64 xd]] w fun e w' => e = .returned (.int .i64 fl) ∧ Below w.heap.size w w'))
    (S1 : Hid (∀ w : World, T10 w → Calls Tryd.prog 17 #[.agg #[.int .i64 xn, .int .i64 xd]] w fun e w' => e = .returned (.string t) ∧ Below w.heap.size w w'))
    (S2 : Hid (∀ w : World, Calls Tryd.prog 18 #[.agg #[.int .i64 xn, .int .i64 xd]] w fun e w' => e = .returned (.string t) ∧ Below w.heap.size w w'))
    (w : World) (ht : T10 w) :
    Calls Tryd.prog 3 #[.int .i64 n, .int .i64 d, .agg #[.int .i64 xn, .int .i64 xd]] w fun e w' => e = .returned (.bool true) ∧ Below w.heap.size w w' := by
  have HT := Lib.hid ht
  clear ht
  have T0 := Lib.hid ((Has.start w).alloc #[.int .i64 xn, .int .i64 xd] 23)
  go_enter Tryd.func3, Tryd.ntmps3
  go_wp2_with fail
  with_reducible refine (M1.out _).mono ?_
  rintro e w1 ⟨rfl, hb1⟩
  have T1 := Lib.hid ((T0.out.step hb1).alloc #[.int .i64 a, .int .i64 b] 23)
  clear hb1 T0 M1
  go_upto_region 2 with fail
  generalize w1.alloc (.cells #[.int .i64 a, .int .i64 b] 23) = y1 at *
  generalize w1.heap.size = q1 at *
  go_wp2_with fail
  with_reducible refine (M2.out _).mono ?_
  rintro e w2 ⟨rfl, hb2⟩
  have T2 := Lib.hid ((T1.out.step hb2).alloc #[.int .i64 a, .int .i64 b] 23)
  clear hb2 T1 M2
  go_upto_region 3 with fail
  generalize w2.alloc (.cells #[.int .i64 a, .int .i64 b] 23) = y2 at *
  generalize w2.heap.size = q2 at *
  generalize w.heap.size = q0 at *
  have hk1 := HLk.mk (HL.mk T2.out)
  clear T2
  have h0 := hk1.out.all3
  go_region_held3 (fun V => HL w [(q2, #[.int .i64 a, .int .i64 b], 23), (q1, #[.int .i64 a, .int .i64 b], 23), (q0, #[.int .i64 xn, .int .i64 xd], 23)] V ∧ V.cell? ⟨q2, 0, none⟩ = some (.int .i64 a) ∧ V.cell? ⟨q2, 1, none⟩ = some (.int .i64 b) ∧ V.cell? ⟨q1, 0, none⟩ = some (.int .i64 a) ∧ V.cell? ⟨q1, 1, none⟩ = some (.int .i64 b) ∧ V.cell? ⟨q0, 0, none⟩ = some (.int .i64 xn) ∧ V.cell? ⟨q0, 1, none⟩ = some (.int .i64 xd))
    ((refine HL.all3 ?_; (with_reducible repeat (first | exact HLk.out (by assumption) | apply HL.drew))))
    (first
      | (go_at_call 13; (with_reducible refine (C1.out _).mono ?_); rintro e w' ⟨rfl, hb⟩; (have hk := HLk.mk (HL.step hb (by (with_reducible repeat (first | exact HLk.out (by assumption) | apply HL.drew))))))
      | (go_at_call 14; (with_reducible refine (C2.out _).mono ?_); rintro e w' ⟨rfl, hb⟩; (have hk := HLk.mk (HL.step hb (by (with_reducible repeat (first | exact HLk.out (by assumption) | apply HL.drew))))))
      | (go_at_call 15; (with_reducible refine (F1.out _).mono ?_); rintro e w' ⟨rfl, hb⟩; (have hk := HLk.mk (HL.step hb (by (with_reducible repeat (first | exact HLk.out (by assumption) | apply HL.drew))))))
      | (go_at_call 16; (with_reducible refine (F2.out _).mono ?_); rintro e w' ⟨rfl, hb⟩; (have hk := HLk.mk (HL.step hb (by (with_reducible repeat (first | exact HLk.out (by assumption) | apply HL.drew))))))
      | (go_at_call 17; (with_reducible refine (S1.out _ (HL.t10 HT.out (by (with_reducible repeat (first | exact HLk.out (by assumption) | apply HL.drew))))).mono ?_); rintro e w' ⟨rfl, hb⟩; (have hk := HLk.mk (HL.step hb (by (with_reducible repeat (first | exact HLk.out (by assumption) | apply HL.drew))))))
      | (go_at_call 18; (with_reducible refine (S2.out _).mono ?_); rintro e w' ⟨rfl, hb⟩; (have hk := HLk.mk (HL.step hb (by (with_reducible repeat (first | exact HLk.out (by assumption) | apply HL.drew))))))
      | (go_at_call 19; (with_reducible refine (awake_any _ (HL.t10 HT.out (by (with_reducible repeat (first | exact HLk.out (by assumption) | apply HL.drew))))).mono ?_); rintro e w' ⟨rfl, hb⟩; (have hk := HLk.mk (HL.step hb (by (with_reducible repeat (first | exact HLk.out (by assumption) | apply HL.drew))))); (have HZ := Lib.hid hk)))
  go_wp2
  go_ret
  exact ⟨rfl, HZ.out.out.has.1⟩
theorem mlaw_walk (n : Int) (i1 : inI n) (d : Int) (i2 : inI d) (xn xd : Int) (i3 : inI xn) (i4 : inI xd) (w : World) (ht : T10 w) :
    Calls Tryd.prog 3 #[.int .i64 n, .int .i64 d, .agg #[.int .i64 xn, .int .i64 xd]] w fun e w' => e = .returned (.bool true) ∧ Below w.heap.size w w' := by
  have K1 : ∃ a b x : Int, (∀ w : World, Calls Tryd.prog 11 #[.int .i64 n, .int .i64 d] w fun e w' => e = .returned (.tuple #[.agg #[.int .i64 a, .int .i64 b], .int .i64 x]) ∧ Below w.heap.size w w') ∧
      (∀ w : World, Calls Tryd.prog 12 #[.int .i64 n, .int .i64 d] w fun e w' => e = .returned (.tuple #[.agg #[.int .i64 a, .int .i64 b], .int .i64 x]) ∧ Below w.heap.size w w') := by
    by_cases hd : d = 0
    · subst hd
      exact ⟨0, 0, 26, fun w => make_zero n w, fun w => rMake_zero n w⟩
    · obtain ⟨a, b, x, ho⟩ := makeOut_form n d
      have A := fun w => make_any n d i1 i2 hd w
      have B := fun w => rMake n d i1 i2 hd w
      rw [ho] at A B
      exact ⟨a, b, x, A, B⟩
  obtain ⟨a, b, x, M1, M2⟩ := K1
  have S1 := fun w h => format_any xn xd i3 i4 w h
  have S2 := fun w => rFormat xn xd i3 i4 w
  by_cases h : Rat.chk xn xd
  · obtain ⟨D, rfl, hD⟩ := Rat.chk_nat h
    exact mlaw_raw n d a b x xn D 0 (xn / (D : Int)) _ (Lib.hid M1) (Lib.hid M2) (Lib.hid fun w => check_yes xn D hD w) (Lib.hid fun w => rCheck_yes xn D hD w)
      (Lib.hid fun w => floor_yes xn D hD w) (Lib.hid fun w => rFloor_yes xn D hD w) (Lib.hid S1) (Lib.hid S2) w ht
  · exact mlaw_raw n d a b x xn xd 1 0 _ (Lib.hid M1) (Lib.hid M2) (Lib.hid fun w => check_no xn xd i3 i4 h w) (Lib.hid fun w => rCheck_no xn xd i3 i4 h w)
      (Lib.hid fun w => floor_no xn xd i3 i4 h w) (Lib.hid fun w => rFloor_no xn xd i3 i4 h w) (Lib.hid S1) (Lib.hid S2) w ht
end Go.Proofs.YtbhlpcomgfmodaaDoor.Pro
