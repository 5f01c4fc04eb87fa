/- Layer 9: columns appended, columns encoded. -/
import Derived.Test.YtmeekciclfgkkaaDcE
set_option linter.unusedVariables false
set_option linter.unusedSimpArgs false
namespace Go.Proofs.Ytmeekciclfgkkaa.Dc
open Go.RowKit
theorem differences_own (zs : List Int) (hl : zs.length ≤ 1000000) (hz : within 2305843009213693952 zs) (sv : Value) (w : World) (hI0 : IntsAt w.heap.size w sv zs) :
    Calls Try.prog 37 #[sv] w fun e w' => ∃ v, e = .returned v ∧ w'.ownsRow w.heap.size 3 1 v (diffs zs).length (ic (diffs zs)) ∧ Below w.heap.size w w' := diffs_own zs hl hz sv w hI0
theorem colB_nil (f : List Int → List UInt8) : colB f [] = [] := rfl
theorem sB_len {z : Int} (h1 : -1152921504606846976 ≤ z) (h2 : z ≤ 1152921504606846976) : (sB z).length ≤ 9 := by
  have h := fold_le h1 h2
  exact uv_len9 (by omega)

set_option maxHeartbeats 2000000 in
theorem col_runs (B : Nat) (zs : List Int) (hl : zs.length ≤ 1000000) (hz : within 576460752303423488 zs) (sv lv : Value) (t : List UInt8) (ht : t.length ≤ 9999980) (w : World) (hB : B ≤ w.heap.size) (hO : OwnBy B w sv t) (hI : IntsX B w lv zs) :
    Calls Try.prog 30 #[sv, lv, .func (.func 34) #[] #[]] w fun e w' => ∃ v', e = .returned v' ∧ OwnBy B w' v' (t ++ tailV zs) ∧ Below B w w' := by
  obtain ⟨A, c0, rfl⟩ := own_form hO
  have HO := Lib.hid hO
  have HB := Lib.hid hB
  cases zs with
  | nil =>
    obtain ⟨a, cap, rfl, _⟩ := hI
    clear hO hB
    generalize hu : t.length = n at *
    go_enter Try.func30, Try.ntmps30
    go_wp2
    go_ret
    refine ⟨_, rfl, ?_, Below.refl _ _⟩
    show OwnBy B w _ (t ++ [])
    rw [List.append_nil]
    exact HO.out
  | cons z l =>
    have hzz := hz z (List.mem_cons_self ..)
    have HA := Lib.hid (appSig_any B z (.slice A t.length c0) t w hB hO (by omega) (by omega) (by omega))
    have HX := Lib.hid hI
    have HI := hI.ints
    obtain ⟨a, cap, rfl, hcx⟩ := HI
    obtain ⟨b, o, rfl, hb, hc⟩ := hcx (List.cons_ne_nil _ _)
    have hcell := hc 0 (by simp)
    rw [show (z :: l)[0]?.getD 0 = z from rfl, Nat.add_zero] at hcell
    have hpos : 0 < (z :: l).length := by simp
    have hq : (((z :: l).length : Int) == 0) = false := by rw [beq_eq_false_iff_ne]; simp; omega
    have HDL := Lib.hid (diffs_length (z :: l))
    have HDW : Hid (within (2 * 576460752303423488) (diffs (z :: l))) := Lib.hid hz.diffs
    have HSL := Lib.hid (sB_len (z := z) (by omega) (by omega))
    have HSP : Hid (tailV (z :: l) = sB z ++ rleB (diffs (z :: l))) := rfl
    have HDD := Lib.hid fun v hb => differences_own (z :: l) hl (hz.mono (by decide)) (.slice (some ⟨b, o, none⟩) (z :: l).length cap) v hb
    clear hO hB hcx hc hI hz
    generalize tailV (z :: l) = sp at *
    generalize z :: l = zs at *
    generalize diffs zs = ds at *
    go_enter Try.func30, Try.ntmps30
    go_wp2_with fail
    refine HA.out.mono ?_
    rintro e w1 ⟨v1, rfl, ho1, hb1, hg1⟩
    have O1 := Lib.hid ho1
    have B1 := Lib.hid hb1
    have HI1 := HX.out.row HO.out hg1
    clear ho1 hb1 hg1 HA
    go_wp2_with fail
    refine (HDD.out w1 HI1.ints).mono ?_
    rintro e w2 ⟨v2, rfl, ho2, hb2⟩
    have O2 := Lib.hid (O1.out.step hb2)
    have B2 := Lib.hid (B1.out.trans (hb2.mono (Nat.le_trans HB.out B1.out.size)))
    have X2 : Hid (IntsX B w2 v2 ds) := IntsX.of_own ho2
    clear ho2 hb2 HI1
    go_wp2_with fail
    refine (appRuns_any B ds (by rw [HDL.out]; omega) (HDW.out.mono (by decide)) v1 v2 _ (by rw [List.length_append]; have := HSL.out; omega) w2 (Nat.le_trans HB.out B2.out.size) O2.out X2.out).mono ?_
    rintro e w3 ⟨v3, rfl, ho3, hb3⟩
    obtain ⟨u, hu⟩ : ∃ u, t ++ sB z ++ rleB ds = u := ⟨_, rfl⟩
    rw [hu] at ho3
    have HUU : Hid (t ++ sp = u) := Lib.hid (by rw [HSP.out, ← List.append_assoc, hu])
    have O3 := Lib.hid ho3
    have B3 := Lib.hid (B2.out.trans hb3)
    clear ho3 hb3 hu HSP
    obtain ⟨A3, c3, rfl⟩ := own_form O3.out
    go_wp2
    go_ret
    exact ⟨_, rfl, by rw [HUU.out]; exact O3.out, B3.out⟩
set_option maxHeartbeats 2000000 in
theorem appendValues_any (B : Nat) (zs : List Int) (hl : zs.length ≤ 1000000) (hz : within 576460752303423488 zs) (sv lv : Value) (t : List UInt8) (ht : t.length ≤ 9999980) (w : World) (hB : B ≤ w.heap.size) (hO : OwnBy B w sv t) (hI : IntsX B w lv zs) :
    Calls Try.prog 23 #[sv, lv] w fun e w' => ∃ v', e = .returned v' ∧ OwnBy B w' v' (t ++ tailV zs) ∧ Below B w w' := by
  have HM := Lib.hid (col_runs B zs hl hz sv lv t ht w hB hO hI)
  obtain ⟨A, c0, rfl⟩ := own_form hO
  obtain ⟨a, cap, rfl, _⟩ := hI
  generalize t ++ tailV zs = u at *
  clear hO hz
  go_enter Try.func23, Try.ntmps23
  go_wp2_with fail
  refine HM.out.mono ?_
  rintro e w3 ⟨v3, rfl, ho3, hb3⟩
  have O3 := Lib.hid ho3
  have B3 := Lib.hid hb3
  clear ho3 hb3
  obtain ⟨A3, c3, rfl⟩ := own_form O3.out
  go_wp2
  go_ret
  exact ⟨_, rfl, O3.out, B3.out⟩

set_option maxHeartbeats 2000000 in
theorem col_values (B : Nat) (zs : List Int) (hl : zs.length ≤ 1000000) (hz : within 288230376151711744 zs) (sv lv : Value) (t : List UInt8) (ht : t.length ≤ 9999960) (w : World) (hB : B ≤ w.heap.size) (hO : OwnBy B w sv t) (hI : IntsX B w lv zs) :
    Calls Try.prog 30 #[sv, lv, .func (.func 23) #[] #[]] w fun e w' => ∃ v', e = .returned v' ∧ OwnBy B w' v' (t ++ tailT zs) ∧ Below B w w' := by
  obtain ⟨A, c0, rfl⟩ := own_form hO
  have HO := Lib.hid hO
  have HB := Lib.hid hB
  cases zs with
  | nil =>
    obtain ⟨a, cap, rfl, _⟩ := hI
    clear hO hB
    generalize hu : t.length = n at *
    go_enter Try.func30, Try.ntmps30
    go_wp2
    go_ret
    refine ⟨_, rfl, ?_, Below.refl _ _⟩
    show OwnBy B w _ (t ++ [])
    rw [List.append_nil]
    exact HO.out
  | cons z l =>
    have hzz := hz z (List.mem_cons_self ..)
    have HA := Lib.hid (appSig_any B z (.slice A t.length c0) t w hB hO (by omega) (by omega) (by omega))
    have HX := Lib.hid hI
    have HI := hI.ints
    obtain ⟨a, cap, rfl, hcx⟩ := HI
    obtain ⟨b, o, rfl, hb, hc⟩ := hcx (List.cons_ne_nil _ _)
    have hcell := hc 0 (by simp)
    rw [show (z :: l)[0]?.getD 0 = z from rfl, Nat.add_zero] at hcell
    have hpos : 0 < (z :: l).length := by simp
    have hq : (((z :: l).length : Int) == 0) = false := by rw [beq_eq_false_iff_ne]; simp; omega
    have HDL := Lib.hid (diffs_length (z :: l))
    have HDW : Hid (within (2 * 288230376151711744) (diffs (z :: l))) := Lib.hid hz.diffs
    have HSL := Lib.hid (sB_len (z := z) (by omega) (by omega))
    have HSP : Hid (tailT (z :: l) = sB z ++ tailV (diffs (z :: l))) := rfl
    have HDD := Lib.hid fun v hb => differences_own (z :: l) hl (hz.mono (by decide)) (.slice (some ⟨b, o, none⟩) (z :: l).length cap) v hb
    clear hO hB hcx hc hI hz
    generalize tailT (z :: l) = sp at *
    generalize z :: l = zs at *
    generalize diffs zs = ds at *
    go_enter Try.func30, Try.ntmps30
    go_wp2_with fail
    refine HA.out.mono ?_
    rintro e w1 ⟨v1, rfl, ho1, hb1, hg1⟩
    have O1 := Lib.hid ho1
    have B1 := Lib.hid hb1
    have HI1 := HX.out.row HO.out hg1
    clear ho1 hb1 hg1 HA
    go_wp2_with fail
    refine (HDD.out w1 HI1.ints).mono ?_
    rintro e w2 ⟨v2, rfl, ho2, hb2⟩
    have O2 := Lib.hid (O1.out.step hb2)
    have B2 := Lib.hid (B1.out.trans (hb2.mono (Nat.le_trans HB.out B1.out.size)))
    have X2 : Hid (IntsX B w2 v2 ds) := IntsX.of_own ho2
    clear ho2 hb2 HI1
    go_wp2_with fail
    refine (appendValues_any B ds (by rw [HDL.out]; omega) (HDW.out.mono (by decide)) v1 v2 _ (by rw [List.length_append]; have := HSL.out; omega) w2 (Nat.le_trans HB.out B2.out.size) O2.out X2.out).mono ?_
    rintro e w3 ⟨v3, rfl, ho3, hb3⟩
    obtain ⟨u, hu⟩ : ∃ u, t ++ sB z ++ tailV ds = u := ⟨_, rfl⟩
    rw [hu] at ho3
    have HUU : Hid (t ++ sp = u) := Lib.hid (by rw [HSP.out, ← List.append_assoc, hu])
    have O3 := Lib.hid ho3
    have B3 := Lib.hid (B2.out.trans hb3)
    clear ho3 hb3 hu HSP
    obtain ⟨A3, c3, rfl⟩ := own_form O3.out
    go_wp2
    go_ret
    exact ⟨_, rfl, by rw [HUU.out]; exact O3.out, B3.out⟩
set_option maxHeartbeats 2000000 in
theorem appendTimes_any (B : Nat) (zs : List Int) (hl : zs.length ≤ 1000000) (hz : within 288230376151711744 zs) (sv lv : Value) (t : List UInt8) (ht : t.length ≤ 9999960) (w : World) (hB : B ≤ w.heap.size) (hO : OwnBy B w sv t) (hI : IntsX B w lv zs) :
    Calls Try.prog 18 #[sv, lv] w fun e w' => ∃ v', e = .returned v' ∧ OwnBy B w' v' (t ++ tailT zs) ∧ Below B w w' := by
  have HM := Lib.hid (col_values B zs hl hz sv lv t ht w hB hO hI)
  obtain ⟨A, c0, rfl⟩ := own_form hO
  obtain ⟨a, cap, rfl, _⟩ := hI
  generalize t ++ tailT zs = u at *
  clear hO hz
  go_enter Try.func18, Try.ntmps18
  go_wp2_with fail
  refine HM.out.mono ?_
  rintro e w3 ⟨v3, rfl, ho3, hb3⟩
  have O3 := Lib.hid ho3
  have B3 := Lib.hid hb3
  clear ho3 hb3
  obtain ⟨A3, c3, rfl⟩ := own_form O3.out
  go_wp2
  go_ret
  exact ⟨_, rfl, O3.out, B3.out⟩

/-- What EncodeTimes hands back. -/
def encTO (zs : List Int) : List UInt8 × Int := if 20000 < zs.length then ([], 4) else if chkT 0 zs ≠ 0 then ([], chkT 0 zs) else (encT zs, 0)
set_option maxHeartbeats 2000000 in
theorem encode_EncodeTimes (zs : List Int) (hl : zs.length ≤ 1000000) (sv : Value) (w : World) (hI : Ints w.heap.size w sv zs) :
    Calls Try.prog 16 #[sv, .func (.func 17) #[] #[], .func (.func 18) #[] #[]] w fun e w' => e = .returned (.tuple #[.string ⟨(encTO zs).1.toArray⟩, .int .i64 (encTO zs).2]) ∧ Below w.heap.size w w' := by
  have HI := Lib.hid hI
  have B0 := Lib.hid (Below.refl w.heap.size w)
  by_cases h1 : 20000 < zs.length
  · have HE : Hid (encTO zs = ([], 4)) := if_pos h1
    obtain ⟨a, cap, rfl, _⟩ := hI
    rw [HE.out]
    go_enter Try.func16, Try.ntmps16
    go_wp2
    go_ret2
    exact ⟨rfl, B0.out⟩
  · have HC := Lib.hid (checkTimes_any zs hl sv w hI)
    by_cases h2 : chkT 0 zs = 0
    · have HE : Hid (encTO zs = (encT zs, 0)) := by
        unfold encTO
        rw [if_neg h1, if_neg (by omega)]
        exact rfl
      rw [h2] at HC
      have HW : Hid (within 288230376151711744 zs) := Lib.hid fun x hx => by
        have := chkT_zero h2 x hx
        unfold okT at this
        omega
      have HN := Lib.hid (appNum_any w.heap.size zs.length (.slice none 0 0) [] w (Nat.le_refl _) (OwnBy.nil_ _ _) (by omega) (by simp))
      have HL := Lib.hid (uv_len9 (m := zs.length) (by omega))
      have HL2 := Lib.hid (Lib.uvarint_pos zs.length)
      rw [HE.out]
      obtain ⟨a, cap, rfl, _⟩ := hI
      clear h2 HE
      go_enter Try.func16, Try.ntmps16
      go_wp2_with fail
      refine HC.out.mono ?_
      rintro e w' ⟨rfl, rfl⟩
      go_wp2_with fail
      refine HN.out.mono ?_
      rintro e w1 ⟨v1, rfl, ho1, hb1, hg1⟩
      rw [List.nil_append] at ho1
      have O1 := Lib.hid ho1
      have B1 := Lib.hid hb1
      clear ho1 hb1 hg1 HN
      go_wp2_with fail
      refine (appendTimes_any w.heap.size zs hl HW.out v1 _ _ (by have := HL.out; omega) w1 B1.out.size O1.out (IntsX.of_ints (HI.out.below B1.out) B1.out.size)).mono ?_
      rintro e w2 ⟨v2, rfl, ho2, hb2⟩
      have B2 := Lib.hid (B1.out.trans hb2)
      have hlt : 1 ≤ (Lib.uvarint zs.length ++ tailT zs).length := by rw [List.length_append]; have := HL2.out; omega
      have HU : Hid (encT zs = Lib.uvarint zs.length ++ tailT zs) := rfl
      rw [← HU.out] at ho2 hlt
      obtain ⟨u, hu⟩ : ∃ u, encT zs = u := ⟨_, rfl⟩
      rw [hu] at ho2 hlt
      have HUU := Lib.hid hu
      clear hb2 HU hu
      obtain ⟨g, cap', rfl, hcv⟩ := conv_own ho2 hlt
      generalize u.length = un at *
      go_wp2
      go_ret2
      rw [HUU.out]
      exact ⟨rfl, B2.out⟩
    · have HE : Hid (encTO zs = ([], chkT 0 zs)) := by
        unfold encTO
        rw [if_neg h1, if_pos h2]
        exact rfl
      have hq := bne_yes h2
      rw [HE.out]
      generalize chkT 0 zs = ec at *
      obtain ⟨a, cap, rfl, _⟩ := hI
      clear h2 HE
      go_enter Try.func16, Try.ntmps16
      go_wp2_with fail
      refine HC.out.mono ?_
      rintro e w' ⟨rfl, rfl⟩
      go_wp2
      go_ret2
      exact ⟨rfl, B0.out⟩
set_option maxHeartbeats 2000000 in
theorem EncodeTimes_any (zs : List Int) (hl : zs.length ≤ 1000000) (sv : Value) (w : World) (hI : Ints w.heap.size w sv zs) :
    Calls Try.prog 7 #[sv] w fun e w' => e = .returned (.tuple #[.string ⟨(encTO zs).1.toArray⟩, .int .i64 (encTO zs).2]) ∧ Below w.heap.size w w' := by
  have HM := Lib.hid (encode_EncodeTimes zs hl sv w hI)
  obtain ⟨a, cap, rfl, _⟩ := hI
  generalize encTO zs = r at *
  go_enter Try.func7, Try.ntmps7
  go_wp2_with fail
  refine HM.out.mono ?_
  rintro e w3 ⟨rfl, hb3⟩
  have B3 := Lib.hid hb3
  clear hb3
  go_wp2
  go_ret2
  exact ⟨rfl, B3.out⟩

/-- What EncodeValues hands back. -/
def encVO (zs : List Int) : List UInt8 × Int := if 20000 < zs.length then ([], 4) else if chkV zs ≠ 0 then ([], chkV zs) else (encV zs, 0)
set_option maxHeartbeats 2000000 in
theorem encode_EncodeValues (zs : List Int) (hl : zs.length ≤ 1000000) (sv : Value) (w : World) (hI : Ints w.heap.size w sv zs) :
    Calls Try.prog 16 #[sv, .func (.func 22) #[] #[], .func (.func 23) #[] #[]] w fun e w' => e = .returned (.tuple #[.string ⟨(encVO zs).1.toArray⟩, .int .i64 (encVO zs).2]) ∧ Below w.heap.size w w' := by
  have HI := Lib.hid hI
  have B0 := Lib.hid (Below.refl w.heap.size w)
  by_cases h1 : 20000 < zs.length
  · have HE : Hid (encVO zs = ([], 4)) := if_pos h1
    obtain ⟨a, cap, rfl, _⟩ := hI
    rw [HE.out]
    go_enter Try.func16, Try.ntmps16
    go_wp2
    go_ret2
    exact ⟨rfl, B0.out⟩
  · have HC := Lib.hid (checkValues_any zs hl sv w hI)
    by_cases h2 : chkV zs = 0
    · have HE : Hid (encVO zs = (encV zs, 0)) := by
        unfold encVO
        rw [if_neg h1, if_neg (by omega)]
        exact rfl
      rw [h2] at HC
      have HW : Hid (within 576460752303423488 zs) := Lib.hid fun x hx => by
        have := chkV_zero h2 x hx
        unfold okV at this
        omega
      have HN := Lib.hid (appNum_any w.heap.size zs.length (.slice none 0 0) [] w (Nat.le_refl _) (OwnBy.nil_ _ _) (by omega) (by simp))
      have HL := Lib.hid (uv_len9 (m := zs.length) (by omega))
      have HL2 := Lib.hid (Lib.uvarint_pos zs.length)
      rw [HE.out]
      obtain ⟨a, cap, rfl, _⟩ := hI
      clear h2 HE
      go_enter Try.func16, Try.ntmps16
      go_wp2_with fail
      refine HC.out.mono ?_
      rintro e w' ⟨rfl, rfl⟩
      go_wp2_with fail
      refine HN.out.mono ?_
      rintro e w1 ⟨v1, rfl, ho1, hb1, hg1⟩
      rw [List.nil_append] at ho1
      have O1 := Lib.hid ho1
      have B1 := Lib.hid hb1
      clear ho1 hb1 hg1 HN
      go_wp2_with fail
      refine (appendValues_any w.heap.size zs hl HW.out v1 _ _ (by have := HL.out; omega) w1 B1.out.size O1.out (IntsX.of_ints (HI.out.below B1.out) B1.out.size)).mono ?_
      rintro e w2 ⟨v2, rfl, ho2, hb2⟩
      have B2 := Lib.hid (B1.out.trans hb2)
      have hlt : 1 ≤ (Lib.uvarint zs.length ++ tailV zs).length := by rw [List.length_append]; have := HL2.out; omega
      have HU : Hid (encV zs = Lib.uvarint zs.length ++ tailV zs) := rfl
      rw [← HU.out] at ho2 hlt
      obtain ⟨u, hu⟩ : ∃ u, encV zs = u := ⟨_, rfl⟩
      rw [hu] at ho2 hlt
      have HUU := Lib.hid hu
      clear hb2 HU hu
      obtain ⟨g, cap', rfl, hcv⟩ := conv_own ho2 hlt
      generalize u.length = un at *
      go_wp2
      go_ret2
      rw [HUU.out]
      exact ⟨rfl, B2.out⟩
    · have HE : Hid (encVO zs = ([], chkV zs)) := by
        unfold encVO
        rw [if_neg h1, if_pos h2]
        exact rfl
      have hq := bne_yes h2
      rw [HE.out]
      generalize chkV zs = ec at *
      obtain ⟨a, cap, rfl, _⟩ := hI
      clear h2 HE
      go_enter Try.func16, Try.ntmps16
      go_wp2_with fail
      refine HC.out.mono ?_
      rintro e w' ⟨rfl, rfl⟩
      go_wp2
      go_ret2
      exact ⟨rfl, B0.out⟩
set_option maxHeartbeats 2000000 in
theorem EncodeValues_any (zs : List Int) (hl : zs.length ≤ 1000000) (sv : Value) (w : World) (hI : Ints w.heap.size w sv zs) :
    Calls Try.prog 11 #[sv] w fun e w' => e = .returned (.tuple #[.string ⟨(encVO zs).1.toArray⟩, .int .i64 (encVO zs).2]) ∧ Below w.heap.size w w' := by
  have HM := Lib.hid (encode_EncodeValues zs hl sv w hI)
  obtain ⟨a, cap, rfl, _⟩ := hI
  generalize encVO zs = r at *
  go_enter Try.func11, Try.ntmps11
  go_wp2_with fail
  refine HM.out.mono ?_
  rintro e w3 ⟨rfl, hb3⟩
  have B3 := Lib.hid hb3
  clear hb3
  go_wp2
  go_ret2
  exact ⟨rfl, B3.out⟩
end Go.Proofs.Ytmeekciclfgkkaa.Dc
