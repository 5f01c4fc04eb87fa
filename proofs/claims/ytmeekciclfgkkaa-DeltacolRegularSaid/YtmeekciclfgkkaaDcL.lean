/- Layer 9: DeltacolBack's walk. -/
import Derived.Test.YtmeekciclfgkkaaDcJ
set_option linter.unusedVariables false
set_option linter.unusedSimpArgs false
namespace Go.Proofs.Ytmeekciclfgkkaa.Dc
open Go.RowKit
theorem runB_len' : ∀ r : List (Int × Nat), (∀ p ∈ r, (-1152921504606846976 ≤ p.1 ∧ p.1 ≤ 1152921504606846976) ∧ p.2 ≤ 1000000) → (runB r).length ≤ 18 * r.length
  | [], _ => Nat.le_refl _
  | (x, k) :: r, h => by
    have h1 := runB_len' r fun p hp => h p (List.mem_cons_of_mem _ hp)
    have h0 := h (x, k) (List.mem_cons_self ..)
    dsimp only at h0
    have h2 := sB_len h0.1.1 h0.1.2
    have h3 := uv_len9 (m := k) (by omega)
    rw [runB_cons, List.length_append, List.length_append, List.length_cons]
    omega
theorem rleB_len {ds : List Int} (hl : ds.length ≤ 1000000) (hz : within 1152921504606846976 ds) : (rleB ds).length ≤ 18 * ds.length := by
  have h1 := runB_len' (rle ds) fun p hp => by
    have h1 := rle_small ds p hp
    have h2 := hz p.1 h1.2
    exact ⟨h2, by omega⟩
  have h2 := rle_len ds
  unfold rleB
  omega
theorem colB_len {f : List Int → List UInt8} {M : Nat} {zs : List Int} (hf : (f (diffs zs)).length ≤ M) (hz : within 1152921504606846976 zs) : (colB f zs).length ≤ 9 + M := by
  cases zs with
  | nil => exact Nat.zero_le _
  | cons z l =>
    have h := hz z (List.mem_cons_self ..)
    have h2 := sB_len h.1 h.2
    show (sB z ++ f (diffs (z :: l))).length ≤ _
    rw [List.length_append]
    omega
theorem tailV_len {zs : List Int} (hl : zs.length ≤ 1000000) (hz : within 576460752303423488 zs) : (tailV zs).length ≤ 9 + 18 * zs.length := by
  have h1 := rleB_len (ds := diffs zs) (by rw [diffs_length]; omega) (hz.diffs.mono (by decide))
  rw [diffs_length] at h1
  exact Nat.le_trans (colB_len (Nat.le_refl _) (hz.mono (by decide))) (by omega)
theorem tailT_len {zs : List Int} (hl : zs.length ≤ 1000000) (hz : within 288230376151711744 zs) : (tailT zs).length ≤ 18 + 18 * zs.length := by
  have h1 := tailV_len (zs := diffs zs) (by rw [diffs_length]; omega) (hz.diffs.mono (by decide))
  rw [diffs_length] at h1
  exact Nat.le_trans (colB_len (Nat.le_refl _) (hz.mono (by decide))) (by omega)
theorem encV_len {zs : List Int} (hl : zs.length ≤ 1000000) (h : chkV zs = 0) : (encV zs).length ≤ 4294967000 := by
  have h1 := tailV_len hl (fun x hx => by have := chkV_zero h x hx; unfold okV at this; omega)
  have h2 := uv_len9 (m := zs.length) (by omega)
  unfold encV
  rw [List.length_append]
  omega
theorem encT_len {zs : List Int} (hl : zs.length ≤ 1000000) (h : chkT 0 zs = 0) : (encT zs).length ≤ 4294967000 := by
  have h1 := tailT_len hl (fun x hx => by have := chkT_zero h x hx; unfold okT at this; omega)
  have h2 := uv_len9 (m := zs.length) (by omega)
  unfold encT
  rw [List.length_append]
  omega
theorem encTO_bad {l : List Int} (h1 : l.length ≤ 20000) (h2 : chkT 0 l ≠ 0) : encTO l = ([], chkT 0 l) := by
  unfold encTO
  rw [if_neg (by omega), if_pos h2]
theorem encVO_bad {l : List Int} (h1 : l.length ≤ 20000) (h2 : chkV l ≠ 0) : encVO l = ([], chkV l) := by
  unfold encVO
  rw [if_neg (by omega), if_pos h2]
theorem same_refl (l : List Int) : sameB l l = true := decide_eq_true rfl
/-- What a valid column's encoding does. -/
structure BackT (E D : Nat) (l : List Int) (t : ByteArray) : Prop where
  enc : ∀ (v : World) (sv : Value), Ints v.heap.size v sv l → Calls Try.prog E #[sv] v fun e w' => e = .returned (.tuple #[.string t, .int .i64 0]) ∧ Below v.heap.size v w'
  dec : ∀ v : World, Calls Try.prog D #[.string t] v fun e w' => ∃ sv, e = .returned (.tuple #[sv, .int .i64 0]) ∧ Ints w'.heap.size w' sv l ∧ Below v.heap.size v w'
  cnt : ∀ v : World, Calls Try.prog 9 #[.string t] v fun e w' => e = .returned (.tuple #[.int .i64 l.length, .int .i64 0]) ∧ Below v.heap.size v w'
theorem equal_same (l : List Int) (hl : l.length ≤ 20000) (sx sy : Value) (w : World) (h1 : Ints w.heap.size w sx l) (h2 : Ints w.heap.size w sy l) : Calls Try.prog 10 #[sx, sy] w fun e w' => e = .returned (.bool true) ∧ Below w.heap.size w w' := by
  have h := equal_any _ l l hl sx sy w (Nat.le_refl _) h1.at h2.at
  rwa [same_refl] at h
theorem back_times {l : List Int} (hl : l.length ≤ 20000) (h : chkT 0 l = 0) : BackT 7 8 l ⟨(encT l).toArray⟩ :=
  ⟨fun v sv hI => by
    have h1 := EncodeTimes_any l (by omega) sv v hI
    rwa [encTO_ok hl h] at h1,
   fun v => DecodeTimes_any l hl h (encT_len (by omega) h) v,
   fun v => gCount_any l.length (tailT l) v hl (encT_len (by omega) h)⟩
theorem back_values {l : List Int} (hl : l.length ≤ 20000) (h : chkV l = 0) : BackT 11 12 l ⟨(encV l).toArray⟩ :=
  ⟨fun v sv hI => by
    have h1 := EncodeValues_any l (by omega) sv v hI
    rwa [encVO_ok hl h] at h1,
   fun v => DecodeValues_any l hl h (encV_len (by omega) h) v,
   fun v => gCount_any l.length (tailV l) v hl (encV_len (by omega) h)⟩
theorem fail_times {l : List Int} (hl : l.length ≤ 20000) (h : chkT 0 l ≠ 0) : ∃ (t : ByteArray) (c : Int), c ≠ 0 ∧ ∀ (v : World) (sv : Value), Ints v.heap.size v sv l → Calls Try.prog 7 #[sv] v fun e w' => e = .returned (.tuple #[.string t, .int .i64 c]) ∧ Below v.heap.size v w' :=
  ⟨_, chkT 0 l, h, fun v sv hI => by
    have h1 := EncodeTimes_any l (by omega) sv v hI
    rwa [encTO_bad hl h] at h1⟩
theorem fail_values {l : List Int} (hl : l.length ≤ 20000) (h : chkV l ≠ 0) : ∃ (t : ByteArray) (c : Int), c ≠ 0 ∧ ∀ (v : World) (sv : Value), Ints v.heap.size v sv l → Calls Try.prog 11 #[sv] v fun e w' => e = .returned (.tuple #[.string t, .int .i64 c]) ∧ Below v.heap.size v w' :=
  ⟨_, chkV l, h, fun v sv hI => by
    have h1 := EncodeValues_any l (by omega) sv v hI
    rwa [encVO_bad hl h] at h1⟩
set_option maxHeartbeats 2000000 in
set_option maxRecDepth 100000 in
theorem back_ok_ok (lt : List Int) (st : Value) (lv : List Int) (sv : Value) (w : World) (t1 : ByteArray) (XT : Hid (BackT 7 8 lt t1)) (t2 : ByteArray) (XV : Hid (BackT 11 12 lv t2)) (h1 : lt.length ≤ 50) (h2 : lv.length ≤ 50) (hT : Ints w.heap.size w st lt) (hV : Ints w.heap.size w sv lv) : Calls Try.prog 3 #[st, sv] w fun e w' => e = .returned (.bool true) ∧ Below w.heap.size w w' := by
  have B0 := Lib.hid (Below.refl w.heap.size w)
  have I1 := Lib.hid hT
  have I2 := Lib.hid hV
  obtain ⟨_, _, rfl, _⟩ := hT
  obtain ⟨_, _, rfl, _⟩ := hV
  go_enter Try.func3, Try.ntmps3
  go_wp2_with fail
  refine (XT.out.enc _ _ (I1.out.onto B0.out)).mono ?_
  rintro e w1 ⟨rfl, hb⟩
  have B1 := Lib.hid (B0.out.trans (hb.mono B0.out.size))
  clear hb B0
  go_wp2_with fail
  refine (XT.out.dec _).mono ?_
  rintro e w2 ⟨v2, rfl, hi, hb⟩
  have B2 := Lib.hid (B1.out.trans (hb.mono B1.out.size))
  have J2 := Lib.hid hi
  obtain ⟨_, _, rfl, _⟩ := hi
  clear hb B1
  go_wp2_with fail
  refine (XT.out.cnt _).mono ?_
  rintro e w3 ⟨rfl, hb⟩
  have B3 := Lib.hid (B2.out.trans (hb.mono B2.out.size))
  have J3 := Lib.hid (J2.out.onto hb)
  clear hb B2 J2
  go_wp2_with fail
  refine (equal_same lt (by omega) _ _ _ J3.out (I1.out.onto B3.out)).mono ?_
  rintro e w4 ⟨rfl, hb⟩
  have B4 := Lib.hid (B3.out.trans (hb.mono B3.out.size))
  clear hb B3 J3
  go_wp2_with fail
  refine (XV.out.enc _ _ (I2.out.onto B4.out)).mono ?_
  rintro e w5 ⟨rfl, hb⟩
  have B5 := Lib.hid (B4.out.trans (hb.mono B4.out.size))
  clear hb B4
  go_wp2_with fail
  refine (XV.out.dec _).mono ?_
  rintro e w6 ⟨v6, rfl, hi, hb⟩
  have B6 := Lib.hid (B5.out.trans (hb.mono B5.out.size))
  have J6 := Lib.hid hi
  obtain ⟨_, _, rfl, _⟩ := hi
  clear hb B5
  go_wp2_with fail
  refine (XV.out.cnt _).mono ?_
  rintro e w7 ⟨rfl, hb⟩
  have B7 := Lib.hid (B6.out.trans (hb.mono B6.out.size))
  have J7 := Lib.hid (J6.out.onto hb)
  clear hb B6 J6
  go_wp2_with fail
  refine (equal_same lv (by omega) _ _ _ J7.out (I2.out.onto B7.out)).mono ?_
  rintro e w8 ⟨rfl, hb⟩
  have B8 := Lib.hid (B7.out.trans (hb.mono B7.out.size))
  clear hb B7 J7
  go_wp2_with fail
  refine (awake_any _).mono ?_
  rintro e w9 ⟨rfl, hb⟩
  have B9 := Lib.hid (B8.out.trans (hb.mono B8.out.size))
  clear hb B8
  go_wp2
  go_ret
  exact ⟨rfl, B9.out⟩
set_option maxHeartbeats 2000000 in
set_option maxRecDepth 100000 in
theorem back_ok_bad (lt : List Int) (st : Value) (lv : List Int) (sv : Value) (w : World) (t1 : ByteArray) (XT : Hid (BackT 7 8 lt t1)) (t2 : ByteArray) (c2 : Int) (hc2 : c2 ≠ 0) (XV : Hid (∀ (v : World) (sv : Value), Ints v.heap.size v sv lv → Calls Try.prog 11 #[sv] v fun e w' => e = .returned (.tuple #[.string t2, .int .i64 c2]) ∧ Below v.heap.size v w')) (h1 : lt.length ≤ 50) (h2 : lv.length ≤ 50) (hT : Ints w.heap.size w st lt) (hV : Ints w.heap.size w sv lv) : Calls Try.prog 3 #[st, sv] w fun e w' => e = .returned (.bool true) ∧ Below w.heap.size w w' := by
  have hq2 : (c2 == 0) = false := by rw [beq_eq_false_iff_ne]; exact hc2
  clear hc2
  have B0 := Lib.hid (Below.refl w.heap.size w)
  have I1 := Lib.hid hT
  have I2 := Lib.hid hV
  obtain ⟨_, _, rfl, _⟩ := hT
  obtain ⟨_, _, rfl, _⟩ := hV
  go_enter Try.func3, Try.ntmps3
  go_wp2_with fail
  refine (XT.out.enc _ _ (I1.out.onto B0.out)).mono ?_
  rintro e w1 ⟨rfl, hb⟩
  have B1 := Lib.hid (B0.out.trans (hb.mono B0.out.size))
  clear hb B0
  go_wp2_with fail
  refine (XT.out.dec _).mono ?_
  rintro e w2 ⟨v2, rfl, hi, hb⟩
  have B2 := Lib.hid (B1.out.trans (hb.mono B1.out.size))
  have J2 := Lib.hid hi
  obtain ⟨_, _, rfl, _⟩ := hi
  clear hb B1
  go_wp2_with fail
  refine (XT.out.cnt _).mono ?_
  rintro e w3 ⟨rfl, hb⟩
  have B3 := Lib.hid (B2.out.trans (hb.mono B2.out.size))
  have J3 := Lib.hid (J2.out.onto hb)
  clear hb B2 J2
  go_wp2_with fail
  refine (equal_same lt (by omega) _ _ _ J3.out (I1.out.onto B3.out)).mono ?_
  rintro e w4 ⟨rfl, hb⟩
  have B4 := Lib.hid (B3.out.trans (hb.mono B3.out.size))
  clear hb B3 J3
  go_wp2_with fail
  refine (XV.out _ _ (I2.out.onto B4.out)).mono ?_
  rintro e w5 ⟨rfl, hb⟩
  have B5 := Lib.hid (B4.out.trans (hb.mono B4.out.size))
  clear hb B4
  go_wp2_with fail
  refine (awake_any _).mono ?_
  rintro e w6 ⟨rfl, hb⟩
  have B6 := Lib.hid (B5.out.trans (hb.mono B5.out.size))
  clear hb B5
  go_wp2
  go_ret
  exact ⟨rfl, B6.out⟩
set_option maxHeartbeats 2000000 in
set_option maxRecDepth 100000 in
theorem back_bad_ok (lt : List Int) (st : Value) (lv : List Int) (sv : Value) (w : World) (t1 : ByteArray) (c1 : Int) (hc1 : c1 ≠ 0) (XT : Hid (∀ (v : World) (sv : Value), Ints v.heap.size v sv lt → Calls Try.prog 7 #[sv] v fun e w' => e = .returned (.tuple #[.string t1, .int .i64 c1]) ∧ Below v.heap.size v w')) (t2 : ByteArray) (XV : Hid (BackT 11 12 lv t2)) (h1 : lt.length ≤ 50) (h2 : lv.length ≤ 50) (hT : Ints w.heap.size w st lt) (hV : Ints w.heap.size w sv lv) : Calls Try.prog 3 #[st, sv] w fun e w' => e = .returned (.bool true) ∧ Below w.heap.size w w' := by
  have hq1 : (c1 == 0) = false := by rw [beq_eq_false_iff_ne]; exact hc1
  clear hc1
  have B0 := Lib.hid (Below.refl w.heap.size w)
  have I1 := Lib.hid hT
  have I2 := Lib.hid hV
  obtain ⟨_, _, rfl, _⟩ := hT
  obtain ⟨_, _, rfl, _⟩ := hV
  go_enter Try.func3, Try.ntmps3
  go_wp2_with fail
  refine (XT.out _ _ (I1.out.onto B0.out)).mono ?_
  rintro e w1 ⟨rfl, hb⟩
  have B1 := Lib.hid (B0.out.trans (hb.mono B0.out.size))
  clear hb B0
  go_wp2_with fail
  refine (XV.out.enc _ _ (I2.out.onto B1.out)).mono ?_
  rintro e w2 ⟨rfl, hb⟩
  have B2 := Lib.hid (B1.out.trans (hb.mono B1.out.size))
  clear hb B1
  go_wp2_with fail
  refine (XV.out.dec _).mono ?_
  rintro e w3 ⟨v3, rfl, hi, hb⟩
  have B3 := Lib.hid (B2.out.trans (hb.mono B2.out.size))
  have J3 := Lib.hid hi
  obtain ⟨_, _, rfl, _⟩ := hi
  clear hb B2
  go_wp2_with fail
  refine (XV.out.cnt _).mono ?_
  rintro e w4 ⟨rfl, hb⟩
  have B4 := Lib.hid (B3.out.trans (hb.mono B3.out.size))
  have J4 := Lib.hid (J3.out.onto hb)
  clear hb B3 J3
  go_wp2_with fail
  refine (equal_same lv (by omega) _ _ _ J4.out (I2.out.onto B4.out)).mono ?_
  rintro e w5 ⟨rfl, hb⟩
  have B5 := Lib.hid (B4.out.trans (hb.mono B4.out.size))
  clear hb B4 J4
  go_wp2_with fail
  refine (awake_any _).mono ?_
  rintro e w6 ⟨rfl, hb⟩
  have B6 := Lib.hid (B5.out.trans (hb.mono B5.out.size))
  clear hb B5
  go_wp2
  go_ret
  exact ⟨rfl, B6.out⟩
set_option maxHeartbeats 2000000 in
set_option maxRecDepth 100000 in
theorem back_bad_bad (lt : List Int) (st : Value) (lv : List Int) (sv : Value) (w : World) (t1 : ByteArray) (c1 : Int) (hc1 : c1 ≠ 0) (XT : Hid (∀ (v : World) (sv : Value), Ints v.heap.size v sv lt → Calls Try.prog 7 #[sv] v fun e w' => e = .returned (.tuple #[.string t1, .int .i64 c1]) ∧ Below v.heap.size v w')) (t2 : ByteArray) (c2 : Int) (hc2 : c2 ≠ 0) (XV : Hid (∀ (v : World) (sv : Value), Ints v.heap.size v sv lv → Calls Try.prog 11 #[sv] v fun e w' => e = .returned (.tuple #[.string t2, .int .i64 c2]) ∧ Below v.heap.size v w')) (h1 : lt.length ≤ 50) (h2 : lv.length ≤ 50) (hT : Ints w.heap.size w st lt) (hV : Ints w.heap.size w sv lv) : Calls Try.prog 3 #[st, sv] w fun e w' => e = .returned (.bool true) ∧ Below w.heap.size w w' := by
  have hq1 : (c1 == 0) = false := by rw [beq_eq_false_iff_ne]; exact hc1
  clear hc1
  have hq2 : (c2 == 0) = false := by rw [beq_eq_false_iff_ne]; exact hc2
  clear hc2
  have B0 := Lib.hid (Below.refl w.heap.size w)
  have I1 := Lib.hid hT
  have I2 := Lib.hid hV
  obtain ⟨_, _, rfl, _⟩ := hT
  obtain ⟨_, _, rfl, _⟩ := hV
  go_enter Try.func3, Try.ntmps3
  go_wp2_with fail
  refine (XT.out _ _ (I1.out.onto B0.out)).mono ?_
  rintro e w1 ⟨rfl, hb⟩
  have B1 := Lib.hid (B0.out.trans (hb.mono B0.out.size))
  clear hb B0
  go_wp2_with fail
  refine (XV.out _ _ (I2.out.onto B1.out)).mono ?_
  rintro e w2 ⟨rfl, hb⟩
  have B2 := Lib.hid (B1.out.trans (hb.mono B1.out.size))
  clear hb B1
  go_wp2_with fail
  refine (awake_any _).mono ?_
  rintro e w3 ⟨rfl, hb⟩
  have B3 := Lib.hid (B2.out.trans (hb.mono B2.out.size))
  clear hb B2
  go_wp2
  go_ret
  exact ⟨rfl, B3.out⟩
set_option maxHeartbeats 2000000 in
theorem back_walk (lt : List Int) (st : Value) (lv : List Int) (sv : Value) (w : World) (ht : lt.length ≤ maxLen) (hv : lv.length ≤ maxLen) (hT : Ints w.heap.size w st lt) (hV : Ints w.heap.size w sv lv) : Calls Try.prog 3 #[st, sv] w fun e w' => e = .returned (.bool true) ∧ Below w.heap.size w w' := by
  by_cases h1 : lt.length ≤ 50
  · by_cases h2 : lv.length ≤ 50
    · by_cases h3 : chkT 0 lt = 0
      · by_cases h4 : chkV lv = 0
        · exact back_ok_ok lt st lv sv w _ (Lib.hid (back_times (by omega) h3)) _ (Lib.hid (back_values (by omega) h4)) h1 h2 hT hV
        · obtain ⟨t2, c2, hc2, XV⟩ := fail_values (by omega) h4
          exact back_ok_bad lt st lv sv w _ (Lib.hid (back_times (by omega) h3)) t2 c2 hc2 (Lib.hid XV) h1 h2 hT hV
      · obtain ⟨t1, c1, hc1, XT⟩ := fail_times (by omega) h3
        by_cases h4 : chkV lv = 0
        · exact back_bad_ok lt st lv sv w t1 c1 hc1 (Lib.hid XT) _ (Lib.hid (back_values (by omega) h4)) h1 h2 hT hV
        · obtain ⟨t2, c2, hc2, XV⟩ := fail_values (by omega) h4
          exact back_bad_bad lt st lv sv w t1 c1 hc1 (Lib.hid XT) t2 c2 hc2 (Lib.hid XV) h1 h2 hT hV
    · have B0 := Lib.hid (Below.refl w.heap.size w)
      obtain ⟨_, _, rfl, _⟩ := hT
      obtain ⟨_, _, rfl, _⟩ := hV
      go_enter Try.func3, Try.ntmps3
      go_wp2_with fail
      refine (awake_any _).mono ?_
      rintro e w1 ⟨rfl, hb⟩
      have B1 := Lib.hid (B0.out.trans (hb.mono B0.out.size))
      clear hb B0
      go_wp2
      go_ret
      exact ⟨rfl, B1.out⟩
  · have B0 := Lib.hid (Below.refl w.heap.size w)
    obtain ⟨_, _, rfl, _⟩ := hT
    obtain ⟨_, _, rfl, _⟩ := hV
    go_enter Try.func3, Try.ntmps3
    go_wp2_with fail
    refine (awake_any _).mono ?_
    rintro e w1 ⟨rfl, hb⟩
    have B1 := Lib.hid (B0.out.trans (hb.mono B0.out.size))
    clear hb B0
    go_wp2
    go_ret
    exact ⟨rfl, B1.out⟩
end Go.Proofs.Ytmeekciclfgkkaa.Dc
