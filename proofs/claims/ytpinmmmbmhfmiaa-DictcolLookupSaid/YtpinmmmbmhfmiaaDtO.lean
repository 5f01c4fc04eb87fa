/- Layer 10: walks of laws: Canonical, Encode, Decode. -/
import Derived.Test.YtpinmmmbmhfmiaaDtN
set_option linter.unusedVariables false
set_option linter.unusedSimpArgs false
namespace Go.Proofs.Ytpinmmmbmhfmiaa.Dt
open Go.RowKit Go.Sort Dc
set_option maxHeartbeats 2000000 in
set_option maxRecDepth 100000 in
theorem canon_walk (s : BA) (w : World) : Calls Try.prog 7 #[.string s] w fun e w' => e = .returned (.bool true) ∧ Below w.heap.size w w' := by
  have B0 := Lib.hid (Below.refl w.heap.size w)
  by_cases hs : 600 < s.size
  · have hsi : (600 : Int) < s.size := by omega
    go_enter Try.func7, Try.ntmps7
    go_wp2_with fail
    refine (awake_any _).mono ?_
    rintro e wz ⟨rfl, hb⟩
    have BZ := Lib.hid (B0.out.trans (hb.mono B0.out.size))
    clear hb
    go_wp2
    go_ret
    exact ⟨rfl, BZ.out⟩
  · have hsi : ¬ ((600 : Int) < s.size) := by omega
    have HD := Lib.hid (Decode_any s (by omega) w)
    unfold DecQ at HD
    rcases decO_cases s.data.toList with h | ⟨l, h, h2, hl, hls⟩
    · rw [h] at HD
      clear h
      go_enter Try.func7, Try.ntmps7
      go_wp2_with fail
      refine (HD.out).mono ?_
      rintro e w1 ⟨v, rfl, ho, hb⟩
      have B1 := Lib.hid (B0.out.trans (hb.mono B0.out.size))
      obtain ⟨A, c, rfl⟩ := own_form ho
      clear hb ho
      go_wp2_with fail
      refine (awake_any _).mono ?_
      rintro e wz ⟨rfl, hb⟩
      have BZ := Lib.hid (B1.out.trans (hb.mono B1.out.size))
      clear hb
      go_wp2
      go_ret
      exact ⟨rfl, BZ.out⟩
    · rw [h] at HD
      have H2 := Lib.hid h2
      have HLS := Lib.hid hls
      have hqq := eq_yes (rfl : s = s)
      clear h h2 hls
      go_enter Try.func7, Try.ntmps7
      go_wp2_with fail
      refine (HD.out).mono ?_
      rintro e w1 ⟨v, rfl, ho, hb⟩
      have B1 := Lib.hid (B0.out.trans (hb.mono B0.out.size))
      have HE := Lib.hid (Encode_any l (by omega) (fun x hx => by have := HLS.out x hx; omega) v w1 ho.strs.at)
      unfold EncQ at HE
      rw [H2.out] at HE
      dsimp only at HE
      rw [mk_data] at HE
      obtain ⟨A, c, rfl⟩ := own_form ho
      clear hb ho
      go_wp2_with fail
      refine (HE.out).mono ?_
      rintro e w2 ⟨rfl, hb⟩
      have B2 := Lib.hid (B1.out.trans (hb.mono B1.out.size))
      clear hb
      go_wp2_with fail
      refine (awake_any _).mono ?_
      rintro e wz ⟨rfl, hb⟩
      have BZ := Lib.hid (B2.out.trans (hb.mono B2.out.size))
      clear hb
      go_wp2
      go_ret
      exact ⟨rfl, BZ.out⟩
set_option maxHeartbeats 2000000 in
set_option maxRecDepth 100000 in
theorem encode_walk (l : List BA) (hsz : ∀ x ∈ l, x.size ≤ 140737488351232) (sv : Value) (w : World) (hI : StrsAt w.heap.size w sv l) : Calls Try.prog 3 #[sv] w fun e w' => e = .returned (.bool true) ∧ Below w.heap.size w w' := by
  have B0 := Lib.hid (Below.refl w.heap.size w)
  have HG := Lib.hid (great_any l hsz sv w hI)
  have HI := Lib.hid hI
  have HSZ := Lib.hid hsz
  obtain ⟨_, _, rfl, _⟩ := hI
  clear hsz
  go_enter Try.func3, Try.ntmps3
  go_wp2_with fail
  refine HG.out.mono ?_
  rintro e w1 ⟨⟨b, rfl, hg⟩, rfl⟩
  clear HG
  cases b with
  | true =>
    go_wp2_with fail
    refine (awake_any _).mono ?_
    rintro e wz ⟨rfl, hb⟩
    have BZ := Lib.hid (B0.out.trans (hb.mono B0.out.size))
    clear hb
    go_wp2
    go_ret
    exact ⟨rfl, BZ.out⟩
  | false =>
    have hl := (hg rfl).1
    have HE := Lib.hid (Encode_any l (by omega) HSZ.out _ w HI.out)
    clear hg
    go_wp2_with fail
    refine (HE.out).mono ?_
    rintro e w1 ⟨rfl, hb⟩
    have B1 := Lib.hid (B0.out.trans (hb.mono B0.out.size))
    clear hb
    have HE2 := Lib.hid (enc_ref_any l (by omega) HSZ.out _ w1 (HI.out.onto B1.out))
    go_wp2_with fail
    refine (HE2.out).mono ?_
    rintro e w2 ⟨rfl, hb⟩
    have B2 := Lib.hid (B1.out.trans (hb.mono B1.out.size))
    clear hb
    have hqq := eq_yes (rfl : (⟨(encO l).1.toArray⟩ : BA) = ⟨(encO l).1.toArray⟩)
    go_wp2_with fail
    refine (awake_any _).mono ?_
    rintro e wz ⟨rfl, hb⟩
    have BZ := Lib.hid (B2.out.trans (hb.mono B2.out.size))
    clear hb
    go_wp2
    go_ret
    exact ⟨rfl, BZ.out⟩
set_option maxHeartbeats 2000000 in
set_option maxRecDepth 100000 in
theorem decode_walk (s x : BA) (i : Int) (w : World) : Calls Try.prog 5 #[.string s, .string x, .int .i64 i] w fun e w' => e = .returned (.bool true) ∧ Below w.heap.size w w' := by
  have B0 := Lib.hid (Below.refl w.heap.size w)
  have hll : (decO s.data.toList).1.length ≤ 2000 := by
    rcases decO_cases s.data.toList with h | ⟨l, h, _, hl, _⟩
    · rw [h]; exact Nat.zero_le _
    · rw [h]; exact hl
  by_cases hs : 600 < s.size
  · have hsi : (600 : Int) < s.size := by omega
    go_enter Try.func5, Try.ntmps5
    go_wp2_with fail
    refine (awake_any _).mono ?_
    rintro e wz ⟨rfl, hb⟩
    have BZ := Lib.hid (B0.out.trans (hb.mono B0.out.size))
    clear hb
    go_wp2
    go_ret
    exact ⟨rfl, BZ.out⟩
  · have hsi : ¬ ((600 : Int) < s.size) := by omega
    by_cases hx : 600 < x.size
    · have hxi : (600 : Int) < x.size := by omega
      go_enter Try.func5, Try.ntmps5
      go_wp2_with fail
      refine (awake_any _).mono ?_
      rintro e wz ⟨rfl, hb⟩
      have BZ := Lib.hid (B0.out.trans (hb.mono B0.out.size))
      clear hb
      go_wp2
      go_ret
      exact ⟨rfl, BZ.out⟩
    · have hxi : ¬ ((600 : Int) < x.size) := by omega
      have HS4 : Hid (s.size ≤ 4294967000) := Lib.hid (by omega)
      go_enter Try.func5, Try.ntmps5
      go_wp2_with fail
      refine (Decode_any s HS4.out _).mono ?_
      rintro e w1 ⟨v1, rfl, ho, hb⟩
      have B1 := Lib.hid (B0.out.trans (hb.mono B0.out.size))
      have P1 := Lib.hid (ho.strs.at)
      obtain ⟨A1, c1, rfl⟩ := own_form ho
      clear hb ho
      clear B0
      go_wp2_with fail
      refine (dec_ref_any s _).mono ?_
      rintro e w2 ⟨v2, rfl, ho, hb⟩
      have B2 := Lib.hid (B1.out.trans (hb.mono B1.out.size))
      have P2 := Lib.hid (P1.out.onto hb)
      have Q2 := Lib.hid (ho.strs.at)
      obtain ⟨A2, c2, rfl⟩ := own_form ho
      clear hb ho
      clear B1 P1
      go_wp2_with fail
      refine (Distinct_any s HS4.out _).mono ?_
      rintro e w3 ⟨v3, rfl, ho, hb⟩
      have B3 := Lib.hid (B2.out.trans (hb.mono B2.out.size))
      have P3 := Lib.hid (P2.out.onto hb)
      have Q3 := Lib.hid (Q2.out.onto hb)
      have U3 := Lib.hid (ho.strs.at)
      obtain ⟨A3, c3, rfl⟩ := own_form ho
      clear hb ho
      clear B2 P2 Q2
      go_wp2_with fail
      refine (distinct_ref_any s _).mono ?_
      rintro e w4 ⟨v4, rfl, ho, hb⟩
      have B4 := Lib.hid (B3.out.trans (hb.mono B3.out.size))
      have P4 := Lib.hid (P3.out.onto hb)
      have Q4 := Lib.hid (Q3.out.onto hb)
      have U4 := Lib.hid (U3.out.onto hb)
      have V4 := Lib.hid (ho.strs.at)
      obtain ⟨A4, c4, rfl⟩ := own_form ho
      clear hb ho
      clear B3 P3 Q3 U3
      go_wp2_with fail
      refine (Lookup_any s x HS4.out _).mono ?_
      rintro e w5 ⟨v5, rfl, ho, hb⟩
      have B5 := Lib.hid (B4.out.trans (hb.mono B4.out.size))
      have P5 := Lib.hid (P4.out.onto hb)
      have Q5 := Lib.hid (Q4.out.onto hb)
      have U5 := Lib.hid (U4.out.onto hb)
      have V5 := Lib.hid (V4.out.onto hb)
      have K5 := Lib.hid (Ints.of_own (C := w5.heap.size) ho (Nat.le_refl _))
      obtain ⟨A5, c5, rfl⟩ := own_form ho
      clear hb ho
      clear B4 P4 Q4 U4 V4
      go_wp2_with fail
      refine (lookup_ref_any s x _).mono ?_
      rintro e w6 ⟨v6, rfl, ho, hb⟩
      have B6 := Lib.hid (B5.out.trans (hb.mono B5.out.size))
      have P6 := Lib.hid (P5.out.onto hb)
      have Q6 := Lib.hid (Q5.out.onto hb)
      have U6 := Lib.hid (U5.out.onto hb)
      have V6 := Lib.hid (V5.out.onto hb)
      have K6 := Lib.hid (K5.out.onto hb)
      have L6 := Lib.hid (Ints.of_own (C := w6.heap.size) ho (Nat.le_refl _))
      obtain ⟨A6, c6, rfl⟩ := own_form ho
      clear hb ho
      clear B5 P5 Q5 U5 V5 K5
      go_wp2_with fail
      refine (At_any s HS4.out i _).mono ?_
      rintro e w7 ⟨rfl, hb⟩
      have B7 := Lib.hid (B6.out.trans (hb.mono B6.out.size))
      have P7 := Lib.hid (P6.out.onto hb)
      have Q7 := Lib.hid (Q6.out.onto hb)
      have U7 := Lib.hid (U6.out.onto hb)
      have V7 := Lib.hid (V6.out.onto hb)
      have K7 := Lib.hid (K6.out.onto hb)
      have L7 := Lib.hid (L6.out.onto hb)
      clear hb
      clear B6 P6 Q6 U6 V6 K6 L6
      go_wp2_with fail
      refine (at_ref_any s i _).mono ?_
      rintro e w8 ⟨rfl, hb⟩
      have B8 := Lib.hid (B7.out.trans (hb.mono B7.out.size))
      have P8 := Lib.hid (P7.out.onto hb)
      have Q8 := Lib.hid (Q7.out.onto hb)
      have U8 := Lib.hid (U7.out.onto hb)
      have V8 := Lib.hid (V7.out.onto hb)
      have K8 := Lib.hid (K7.out.onto hb)
      have L8 := Lib.hid (L7.out.onto hb)
      clear hb
      clear B7 P7 Q7 U7 V7 K7 L7
      have hq1 := eq_yes (rfl : (atO s.data.toList i).1 = (atO s.data.toList i).1)
      have HS9 := Lib.hid (same_any_S _ _ (by omega) _ _ w8 P8.out Q8.out)
      rw [sameS_refl] at HS9
      go_wp2_with fail
      refine (HS9.out).mono ?_
      rintro e w9 ⟨rfl, hb⟩
      have B9 := Lib.hid (B8.out.trans (hb.mono B8.out.size))
      have U9 := Lib.hid (U8.out.onto hb)
      have V9 := Lib.hid (V8.out.onto hb)
      have K9 := Lib.hid (K8.out.onto hb)
      have L9 := Lib.hid (L8.out.onto hb)
      clear hb
      have hdl := dict_len (decO s.data.toList).1
      have HS10 := Lib.hid (same_any_S _ _ (by omega) _ _ w9 U9.out V9.out)
      rw [sameS_refl] at HS10
      clear P8 Q8 HS9
      go_wp2_with fail
      refine (HS10.out).mono ?_
      rintro e w10 ⟨rfl, hb⟩
      have B10 := Lib.hid (B9.out.trans (hb.mono B9.out.size))
      have K10 := Lib.hid (K9.out.onto hb)
      have L10 := Lib.hid (L9.out.onto hb)
      clear hb
      have hlk := lkL_len x (decO s.data.toList).1 (decO s.data.toList).1.length
      have HS11 := Lib.hid (same_any _ _ _ (by omega) _ _ w10 (Nat.le_refl _) K10.out.at L10.out.at)
      rw [show ∀ l : List Int, sameB l l = true from fun l => decide_eq_true rfl] at HS11
      clear U9 V9 HS10
      go_wp2_with fail
      refine (HS11.out).mono ?_
      rintro e w11 ⟨rfl, hb⟩
      have B11 := Lib.hid (B10.out.trans (hb.mono B10.out.size))
      clear hb
      go_wp2_with fail
      refine (awake_any _).mono ?_
      rintro e wz ⟨rfl, hb⟩
      have BZ := Lib.hid (B11.out.trans (hb.mono B11.out.size))
      clear hb
      go_wp2
      go_ret
      exact ⟨rfl, BZ.out⟩
end Go.Proofs.Ytpinmmmbmhfmiaa.Dt
