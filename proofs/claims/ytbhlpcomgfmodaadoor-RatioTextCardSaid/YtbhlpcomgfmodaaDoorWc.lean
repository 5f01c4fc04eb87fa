/- The walks of the laws of layer 3: Text. -/
import Derived.Test.YtbhlpcomgfmodaaDoorWr
import Derived.Test.YtbhlpcomgfmodaaDoorPX
set_option linter.unusedVariables false
set_option linter.unusedSimpArgs false
namespace Go.Proofs.YtbhlpcomgfmodaaDoor.Pro
open Go.RowKit

theorem fmt_size {n : Int} {D : Nat} (h : Rat.chk n D) : 0 < (Rat.fmtS n D).size ∧ (Rat.fmtS n D).size ≤ 100 := by
  have e : (Rat.fmtS n D).size = (Rat.fmtL n D).length := by
    unfold Rat.fmtS
    rw [if_pos h]
    show (Rat.fmtL n D).toArray.size = _
    simp
  rw [e]
  obtain ⟨h1, h2, h3⟩ := h
  have z1 : (Rat.decL n.natAbs).length ≤ 19 := Rat.dec_size n.natAbs (by omega)
  have z2 : (Rat.decL D).length ≤ 19 := Rat.dec_size D (by omega)
  have z3 := Rat.dec_pos n.natAbs
  unfold Rat.fmtL
  rw [Int.natAbs_natCast, List.length_append, List.length_append]
  refine ⟨by omega, ?_⟩
  have z4 : (if n < 0 then [45] else ([] : List UInt8)).length ≤ 1 := by split <;> simp
  have z5 : (if (1 : Int) < (D : Int) then 47 :: Rat.decL D else []).length ≤ 20 := by split <;> simp <;> omega
  omega
/-- How Parse ends on the law's string. -/
theorem parse_cases (s : ByteArray) : (∃ a b : Int, Rat.parseOut s = .tuple #[.agg #[.int .i64 a, .int .i64 b], .int .i64 0] ∧ Rat.chk a b ∧ Rat.fmtS a b = s) ∨ Rat.parseOut s = .tuple #[.agg #[.int .i64 0, .int .i64 0], .int .i64 3] := by
  by_cases h : ∃ n d, Rat.chk n d ∧ Rat.fmtS n d = s
  · obtain ⟨n, d, hc, hf⟩ := h
    exact .inl ⟨n, d, parse_yes ⟨hc, hf⟩, hc, hf⟩
  · exact .inr (Rat.parseOut_no fun n d hc hf => h ⟨n, d, hc, hf⟩)
set_option maxHeartbeats 1000000 in
set_option maxRecDepth 100000 in
/-- The law behind the size's test, in one case of Check, of Parse. -/
theorem text_raw (n d : Int) (s t : ByteArray) (ce : Int) (hs : ¬ 100 < s.size) (hsm : s.size ≤ 9223372036854775807)
    (hce : (ce = 0 ∧ t.toList.isEmpty = false) ∨ ¬ ce = 0)
    (CK : Hid (∀ w : World, Calls Tryd.prog 14 #[.agg #[.int .i64 n, .int .i64 d]] w fun e w' => e = .returned (.int .i64 ce) ∧ Below w.heap.size w w'))
    (FO : Hid (∀ w : World, T10 w → Calls Tryd.prog 17 #[.agg #[.int .i64 n, .int .i64 d]] w fun e w' => e = .returned (.string t) ∧ Below w.heap.size w w'))
    (P1 : Hid (∀ w : World, ce = 0 → Laid w → Calls Tryd.prog 30 #[.string t] w fun e w' => e = .returned (.tuple #[.agg #[.int .i64 n, .int .i64 d], .int .i64 0]) ∧ Below w.heap.size w w'))
    (a b x : Int) (hx : (x = 0) ∨ (x = 3 ∧ a = 0 ∧ b = 0))
    (P2 : Hid (∀ w : World, Laid w → Calls Tryd.prog 30 #[.string s] w fun e w' => e = .returned (.tuple #[.agg #[.int .i64 a, .int .i64 b], .int .i64 x]) ∧ Below w.heap.size w w'))
    (CK2 : Hid (∀ w : World, x = 0 → Calls Tryd.prog 13 #[.agg #[.int .i64 a, .int .i64 b]] w fun e w' => e = .returned (.int .i64 0) ∧ Below w.heap.size w w'))
    (FO2 : Hid (∀ w : World, x = 0 → T10 w → Calls Tryd.prog 17 #[.agg #[.int .i64 a, .int .i64 b]] w fun e w' => e = .returned (.string s) ∧ Below w.heap.size w w'))
    (w : World) (hl : Laid w) :
    Calls Tryd.prog 10 #[.agg #[.int .i64 n, .int .i64 d], .string s] w fun e w' => e = .returned (.bool true) ∧ Below w.heap.size w w' := by
  have HL := Lib.hid hl
  clear hl
  have T0 := Lib.hid ((Has.start w).alloc #[.int .i64 n, .int .i64 d] 23)
  rcases hce with ⟨rfl, hne⟩ | hce
  · rcases hx with rfl | ⟨rfl, rfl, rfl⟩
    · go_enter Tryd.func10, Tryd.ntmps10
      go_wp2_with fail
      with_reducible refine (CK.out _).mono ?_
      rintro e w1 ⟨rfl, hb1⟩
      have T1 := Lib.hid (T0.out.step hb1)
      clear hb1
      obtain ⟨c0, c1⟩ := cells2 (T1.out.row (b := w.heap.size) (cs := #[.int .i64 n, .int .i64 d]) (t := 23) (by simp))
      go_wp2_with fail
      with_reducible refine (FO.out _ (HL.out.t10.below (Has.b T1.out))).mono ?_
      rintro e w2 ⟨rfl, hb2⟩
      have T2 := Lib.hid (T1.out.step hb2)
      clear hb2 T1 c0 c1
      go_wp2_with fail
      with_reducible refine (P1.out _ (by first | trivial | rfl) (HL.out.below (Has.b T2.out))).mono ?_
      rintro e w3 ⟨rfl, hb3⟩
      have T3 := Lib.hid ((T2.out.step hb3).alloc #[.int .i64 n, .int .i64 d] 23)
      clear hb3 T2
      go_upto_region 6 with fail
      generalize w3.alloc (.cells #[.int .i64 n, .int .i64 d] 23) = y3 at *
      generalize w3.heap.size = g3 at *
      obtain ⟨a0, a1⟩ := cells2 (T3.out.row (b := g3) (cs := #[.int .i64 n, .int .i64 d]) (t := 23) (by simp))
      obtain ⟨c0, c1⟩ := cells2 (T3.out.row (b := w.heap.size) (cs := #[.int .i64 n, .int .i64 d]) (t := 23) (by simp))
      go_wp2_with fail
      with_reducible refine (P2.out _ (HL.out.below (Has.b T3.out))).mono ?_
      rintro e w4 ⟨rfl, hb4⟩
      have T4 := Lib.hid ((T3.out.step hb4).alloc #[.int .i64 a, .int .i64 b] 23)
      clear hb4 T3 c0 c1 a0 a1
      go_upto_region 9 with fail
      generalize w4.alloc (.cells #[.int .i64 a, .int .i64 b] 23) = y4 at *
      generalize w4.heap.size = g4 at *
      obtain ⟨a0, a1⟩ := cells2 (T4.out.row (b := g4) (cs := #[.int .i64 a, .int .i64 b]) (t := 23) (by simp))
      go_wp2_with fail
      with_reducible refine (CK2.out _ (by first | trivial | rfl)).mono ?_
      rintro e w5 ⟨rfl, hb5⟩
      have T5 := Lib.hid (T4.out.step hb5)
      clear hb5 T4 a0 a1
      obtain ⟨a0, a1⟩ := cells2 (T5.out.row (b := g4) (cs := #[.int .i64 a, .int .i64 b]) (t := 23) (by simp))
      go_wp2_with fail
      with_reducible refine (FO2.out _ (by first | trivial | rfl) (HL.out.t10.below (Has.b T5.out))).mono ?_
      rintro e w6 ⟨rfl, hb6⟩
      have T6 := Lib.hid (T5.out.step hb6)
      clear hb6 T5 a0 a1
      go_wp2_with fail
      with_reducible refine (awake_any _ (HL.out.t10.below (Has.b T6.out))).mono ?_
      rintro e w7 ⟨rfl, hb7⟩
      have T7 := Lib.hid (T6.out.step hb7)
      clear hb7 T6
      go_wp2
      go_ret
      exact ⟨rfl, Has.b T7.out⟩
    · go_enter Tryd.func10, Tryd.ntmps10
      go_wp2_with fail
      with_reducible refine (CK.out _).mono ?_
      rintro e w1 ⟨rfl, hb1⟩
      have T1 := Lib.hid (T0.out.step hb1)
      clear hb1
      obtain ⟨c0, c1⟩ := cells2 (T1.out.row (b := w.heap.size) (cs := #[.int .i64 n, .int .i64 d]) (t := 23) (by simp))
      go_wp2_with fail
      with_reducible refine (FO.out _ (HL.out.t10.below (Has.b T1.out))).mono ?_
      rintro e w2 ⟨rfl, hb2⟩
      have T2 := Lib.hid (T1.out.step hb2)
      clear hb2 T1 c0 c1
      go_wp2_with fail
      with_reducible refine (P1.out _ (by first | trivial | rfl) (HL.out.below (Has.b T2.out))).mono ?_
      rintro e w3 ⟨rfl, hb3⟩
      have T3 := Lib.hid ((T2.out.step hb3).alloc #[.int .i64 n, .int .i64 d] 23)
      clear hb3 T2
      go_upto_region 6 with fail
      generalize w3.alloc (.cells #[.int .i64 n, .int .i64 d] 23) = y3 at *
      generalize w3.heap.size = g3 at *
      obtain ⟨a0, a1⟩ := cells2 (T3.out.row (b := g3) (cs := #[.int .i64 n, .int .i64 d]) (t := 23) (by simp))
      obtain ⟨c0, c1⟩ := cells2 (T3.out.row (b := w.heap.size) (cs := #[.int .i64 n, .int .i64 d]) (t := 23) (by simp))
      go_wp2_with fail
      with_reducible refine (P2.out _ (HL.out.below (Has.b T3.out))).mono ?_
      rintro e w4 ⟨rfl, hb4⟩
      have T4 := Lib.hid ((T3.out.step hb4).alloc #[.int .i64 0, .int .i64 0] 23)
      clear hb4 T3 c0 c1 a0 a1
      go_upto_region 9 with fail
      generalize w4.alloc (.cells #[.int .i64 0, .int .i64 0] 23) = y4 at *
      generalize w4.heap.size = g4 at *
      obtain ⟨a0, a1⟩ := cells2 (T4.out.row (b := g4) (cs := #[.int .i64 0, .int .i64 0]) (t := 23) (by simp))
      go_wp2_with fail
      with_reducible refine (awake_any _ (HL.out.t10.below (Has.b T4.out))).mono ?_
      rintro e w7 ⟨rfl, hb7⟩
      have T7 := Lib.hid (T4.out.step hb7)
      clear hb7 T4 a0 a1
      go_wp2
      go_ret
      exact ⟨rfl, Has.b T7.out⟩
  · rcases hx with rfl | ⟨rfl, rfl, rfl⟩
    · go_enter Tryd.func10, Tryd.ntmps10
      go_wp2_with fail
      with_reducible refine (CK.out _).mono ?_
      rintro e w1 ⟨rfl, hb1⟩
      have T3 := Lib.hid (T0.out.step hb1)
      clear hb1
      go_wp2_with fail
      with_reducible refine (P2.out _ (HL.out.below (Has.b T3.out))).mono ?_
      rintro e w4 ⟨rfl, hb4⟩
      have T4 := Lib.hid ((T3.out.step hb4).alloc #[.int .i64 a, .int .i64 b] 23)
      clear hb4 T3
      go_upto_region 9 with fail
      generalize w4.alloc (.cells #[.int .i64 a, .int .i64 b] 23) = y4 at *
      generalize w4.heap.size = g4 at *
      obtain ⟨a0, a1⟩ := cells2 (T4.out.row (b := g4) (cs := #[.int .i64 a, .int .i64 b]) (t := 23) (by simp))
      go_wp2_with fail
      with_reducible refine (CK2.out _ (by first | trivial | rfl)).mono ?_
      rintro e w5 ⟨rfl, hb5⟩
      have T5 := Lib.hid (T4.out.step hb5)
      clear hb5 T4 a0 a1
      obtain ⟨a0, a1⟩ := cells2 (T5.out.row (b := g4) (cs := #[.int .i64 a, .int .i64 b]) (t := 23) (by simp))
      go_wp2_with fail
      with_reducible refine (FO2.out _ (by first | trivial | rfl) (HL.out.t10.below (Has.b T5.out))).mono ?_
      rintro e w6 ⟨rfl, hb6⟩
      have T6 := Lib.hid (T5.out.step hb6)
      clear hb6 T5 a0 a1
      go_wp2_with fail
      with_reducible refine (awake_any _ (HL.out.t10.below (Has.b T6.out))).mono ?_
      rintro e w7 ⟨rfl, hb7⟩
      have T7 := Lib.hid (T6.out.step hb7)
      clear hb7 T6
      go_wp2
      go_ret
      exact ⟨rfl, Has.b T7.out⟩
    · go_enter Tryd.func10, Tryd.ntmps10
      go_wp2_with fail
      with_reducible refine (CK.out _).mono ?_
      rintro e w1 ⟨rfl, hb1⟩
      have T3 := Lib.hid (T0.out.step hb1)
      clear hb1
      go_wp2_with fail
      with_reducible refine (P2.out _ (HL.out.below (Has.b T3.out))).mono ?_
      rintro e w4 ⟨rfl, hb4⟩
      have T4 := Lib.hid ((T3.out.step hb4).alloc #[.int .i64 0, .int .i64 0] 23)
      clear hb4 T3
      go_upto_region 9 with fail
      generalize w4.alloc (.cells #[.int .i64 0, .int .i64 0] 23) = y4 at *
      generalize w4.heap.size = g4 at *
      obtain ⟨a0, a1⟩ := cells2 (T4.out.row (b := g4) (cs := #[.int .i64 0, .int .i64 0]) (t := 23) (by simp))
      go_wp2_with fail
      with_reducible refine (awake_any _ (HL.out.t10.below (Has.b T4.out))).mono ?_
      rintro e w7 ⟨rfl, hb7⟩
      have T7 := Lib.hid (T4.out.step hb7)
      clear hb7 T4 a0 a1
      go_wp2
      go_ret
      exact ⟨rfl, Has.b T7.out⟩
set_option maxHeartbeats 1000000 in
set_option maxRecDepth 100000 in
theorem text_walk (n d : Int) (i1 : inI n) (i2 : inI d) (s : ByteArray) (hs : s.size ≤ maxLen) (w : World) (hl : Laid w) :
    Calls Tryd.prog 10 #[.agg #[.int .i64 n, .int .i64 d], .string s] w fun e w' => e = .returned (.bool true) ∧ Below w.heap.size w w' := by
  have hm : maxLen = 9223372036854775807 := by unfold maxLen; rfl
  rw [hm] at hs
  by_cases h1 : 100 < s.size
  · have HL := Lib.hid hl
    clear hl hm
    go_enter Tryd.func10, Tryd.ntmps10
    go_wp2_with fail
    with_reducible refine (awake_any _ (HL.out.t10.below ((Below.refl _ _).alloc (Nat.le_refl _) _))).mono ?_
    rintro e w1 ⟨rfl, hb1⟩
    have H1 := Lib.hid (((Below.refl w.heap.size w).alloc (Nat.le_refl _) (.cells #[.int .i64 n, .int .i64 d] 23)).trans (hb1.mono (by simp)))
    clear hb1
    go_wp2
    go_ret
    exact ⟨rfl, H1.out⟩
  · have P := fun w h => parse_any s (by omega) w h
    have FO := Lib.hid fun w h => format_any n d i1 i2 w h
    have K : ∃ a b x : Int, Rat.parseOut s = .tuple #[.agg #[.int .i64 a, .int .i64 b], .int .i64 x] ∧ ((x = 0) ∨ (x = 3 ∧ a = 0 ∧ b = 0)) ∧ (x = 0 → Rat.chk a b ∧ Rat.fmtS a b = s) := by
      rcases parse_cases s with ⟨a, b, ho, hab, hf⟩ | ho
      · exact ⟨a, b, 0, ho, .inl rfl, fun _ => ⟨hab, hf⟩⟩
      · exact ⟨0, 0, 3, ho, .inr ⟨rfl, rfl, rfl⟩, fun h => by cases h⟩
    obtain ⟨a, b, x, ho, hx, hxx⟩ := K
    rw [ho] at P
    have CK2 : Hid (∀ w : World, x = 0 → Calls Tryd.prog 13 #[.agg #[.int .i64 a, .int .i64 b]] w fun e w' => e = .returned (.int .i64 0) ∧ Below w.heap.size w w') :=
      Lib.hid fun w h => check_yes a b (hxx h).1 w
    have FO2 : Hid (∀ w : World, x = 0 → T10 w → Calls Tryd.prog 17 #[.agg #[.int .i64 a, .int .i64 b]] w fun e w' => e = .returned (.string s) ∧ Below w.heap.size w w') := by
      refine Lib.hid fun w h ht => ?_
      obtain ⟨hab, hf⟩ := hxx h
      have F := format_any a b (chk_bounds hab).2.2.2.1 (chk_bounds hab).2.2.2.2 w ht
      rw [hf] at F
      exact F
    by_cases hc : Rat.chk n d
    · obtain ⟨D, rfl, hD⟩ := Rat.chk_nat hc
      obtain ⟨z1, z2⟩ := fmt_size hD
      refine text_raw n D s (Rat.fmtS n D) 0 h1 hs (.inl ⟨rfl, ?_⟩) (Lib.hid fun w => rCheck_yes n D hc w) FO (Lib.hid fun w _ h => ?_) a b x hx (Lib.hid P) CK2 FO2 w hl
      · cases he : (Rat.fmtS n D).toList.isEmpty with
        | false => rfl
        | true =>
          rw [List.isEmpty_iff, ByteArray.toList_eq] at he
          have h2 : (Rat.fmtS n D).size = 0 := by
            show (Rat.fmtS n D).data.size = 0
            rw [← Array.length_toList, he]
            rfl
          omega
      · have P1 := parse_any (Rat.fmtS n D) z2 w h
        rw [parse_yes ⟨hD, rfl⟩] at P1
        exact P1
    · exact text_raw n d s (Rat.fmtS n d) 1 h1 hs (.inr (by decide)) (Lib.hid fun w => rCheck_no n d i1 i2 hc w) FO (Lib.hid fun w h => by cases h) a b x hx (Lib.hid P) CK2 FO2 w hl
end Go.Proofs.YtbhlpcomgfmodaaDoor.Pro
