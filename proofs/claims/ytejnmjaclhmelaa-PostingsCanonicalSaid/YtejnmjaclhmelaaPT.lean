/- Layer 8: the walk of the law PostingsCanonical. -/
import Derived.Test.YtejnmjaclhmelaaPN
set_option linter.unusedVariables false
set_option linter.unusedSimpArgs false
namespace Go.Proofs.Ytejnmjaclhmelaa.Po
open Go.RowKit
theorem gapB_le : ∀ (l : List Int) (b : Int), 0 ≤ b → From b l → (gapB b l).length ≤ 9 * l.length
  | [], _, _, _ => by simp [gapB]
  | x :: l, b, hb, h => by
    obtain ⟨⟨h1, h2⟩, h3⟩ := From.cons.1 h
    have h4 := gapB_le l (x + 1) (by omega) h3
    have h5 := uv_len9 (m := (x - b).toNat) (by unfold top at h2; omega)
    rw [gapB, List.length_append, List.length_cons]
    omega
theorem encP_le {l : List Int} (h : chk l = 0) (hl : l.length ≤ 1000000) : (encP l).length ≤ 9 * l.length + 9 := by
  have h1 := gapB_le l 0 (Int.le_refl 0) (from_val.2 (chk_zero.1 h))
  have h2 := uv_len9 (m := l.length) (by omega)
  unfold encP
  rw [List.length_append]
  omega
theorem dec_cases (s : ByteArray) : (∃ n, decO s.data.toList = (n, 0) ∧ chk n = 0 ∧ s = ⟨(encP n).toArray⟩ ∧ n.length + 1 ≤ s.size) ∨ decO s.data.toList = ([], 12) := by
  cases hd : decP s.data.toList with
  | none => exact .inr (decO_none hd)
  | some n =>
    obtain ⟨h1, h2, _⟩ := decP_inv hd
    have h3 := encP_len n
    rw [h2] at h3
    have h4 : s.data.toList.length = s.size := Array.length_toList
    exact .inl ⟨n, decO_some hd, chk_zero.2 h1, of_list h2.symm, by omega⟩
set_option maxHeartbeats 8000000 in
set_option maxRecDepth 100000 in
theorem canonical_walk (zs : List Int) (sv : Value) (s : ByteArray) (w : World) (hl0 : zs.length ≤ maxLen) (hs0 : s.size ≤ maxLen) (hI : Ints w.heap.size w sv zs) :
    Calls Try.prog 11 #[sv, .string s] w fun e w' => e = .returned (.bool true) ∧ Below w.heap.size w w' := by
  have CG := Lib.hid (great_any [zs] (by unfold maxLen; simp) _ _ (IntsL.one hI))
  have B0 : Hid (Below w.heap.size w (w.alloc (.cells #[sv] 22))) := Lib.hid ((Below.refl _ _).alloc (Nat.le_refl _) _)
  have CA := Lib.hid awake_any
  unfold maxLen at hs0
  cases hg : greatB [zs] with
  | true =>
    rw [hg] at CG
    clear hg
    obtain ⟨a, cap, rfl, _⟩ := hI
    go_enter Try.func11, Try.ntmps11
    go_wp2_with fail
    refine CG.out.mono ?_
    rintro e w0 ⟨rfl, rfl⟩
    go_wp2_with fail
    refine (CA.out _).mono ?_
    rintro e w1 ⟨rfl, hb1⟩
    have B1 := Lib.hid (B0.out.trans (hb1.mono B0.out.size))
    clear hb1
    go_wp2
    go_ret
    exact ⟨rfl, B1.out⟩
  | false =>
    have hl : zs.length ≤ 40 := (great_no hg).2 zs (by simp)
    rw [hg] at CG
    by_cases hs : 300 < s.size
    · clear hg hl
      obtain ⟨a, cap, rfl, _⟩ := hI
      go_enter Try.func11, Try.ntmps11
      go_wp2_with fail
      refine CG.out.mono ?_
      rintro e w0 ⟨rfl, rfl⟩
      go_wp2_with fail
      refine (CA.out _).mono ?_
      rintro e w1 ⟨rfl, hb1⟩
      have B1 := Lib.hid (B0.out.trans (hb1.mono B0.out.size))
      clear hb1
      go_wp2
      go_ret
      exact ⟨rfl, B1.out⟩
    · have hns : ¬ (300 : Int) < s.size := by omega
      have CK : Hid (∀ v, Below w.heap.size w v → Calls Try.prog 14 #[sv] v fun e w' => e = .returned (.int .i64 (chk zs)) ∧ Below v.heap.size v w') := Lib.hid fun v hb => gCheck_any zs (by omega) sv v (hI.onto hb)
      have CE : Hid (∀ v, Below w.heap.size w v → Calls Try.prog 27 #[sv] v (EncPost v (encO zs))) := Lib.hid fun v hb => gEncode_any zs (by omega) sv v (hI.onto hb)
      have FI : Hid (∀ v, Below w.heap.size w v → Ints v.heap.size v sv zs) := Lib.hid fun v hb => hI.onto hb
      have CD2 : Hid (∀ v, Calls Try.prog 29 #[.string s] v (DecOut v (decO s.data.toList))) := Lib.hid fun v => gDecode_any s (by omega) v
      have KS : Hid (∀ v sx sy, Ints v.heap.size v sx zs → Ints v.heap.size v sy zs → Calls Try.prog 16 #[sx, sy] v fun e w' => e = .returned (.bool true) ∧ Below v.heap.size v w') := Lib.hid fun v sx sy h1 h2 => same_yes _ _ rfl (by omega) sx sy v h1 h2
      have DS := dec_cases s
      generalize hdq : decO s.data.toList = dq at *
      clear hdq
      by_cases h0 : chk zs = 0
      · rw [h0] at CK
        rw [encO_ok h0] at CE
        have hd := dec_back h0 (by unfold topN; omega)
        have hp := encP_len zs
        have hq := encP_le h0 (by omega)
        have CD : Hid (∀ v, Calls Try.prog 29 #[.string ⟨(encP zs).toArray⟩] v (DecOut v (zs, 0))) := Lib.hid fun v => by
          have h := gDecode_any ⟨(encP zs).toArray⟩ (by show (encP zs).toArray.size ≤ _; rw [List.size_toArray]; omega) v
          rwa [show (⟨(encP zs).toArray⟩ : ByteArray).data.toList = encP zs from List.toList_toArray .., hd] at h
        have CE' : Hid (∀ v, Below w.heap.size w v → Calls Try.prog 27 #[sv] v fun e w' => e = .returned (.tuple #[.string ⟨(encP zs).toArray⟩, .int .i64 0]) ∧ Below v.heap.size v w') := Lib.hid fun v hb => CE.out v hb
        have htl : zs.length < (⟨(encP zs).toArray⟩ : ByteArray).size := by show _ < (encP zs).toArray.size; rw [List.size_toArray]; omega
        generalize (⟨(encP zs).toArray⟩ : ByteArray) = t at *
        have htn : ¬ (t.size : Int) ≤ zs.length := by omega
        clear CE hd hp hq hg h0 htl
        rcases DS with ⟨n, rfl, hn1, hn2, hn3⟩ | rfl
        · have CE2 : Hid (∀ v sn, Ints v.heap.size v sn n → Calls Try.prog 27 #[sn] v fun e w' => e = .returned (.tuple #[.string s, .int .i64 0]) ∧ Below v.heap.size v w') := Lib.hid fun v sn h => by
            have h2 := gEncode_any n (by omega) sn v h
            rw [encO_ok hn1] at h2
            rw [hn2]
            exact h2
          have CK2 : Hid (∀ v sn, Ints v.heap.size v sn n → Calls Try.prog 14 #[sn] v fun e w' => e = .returned (.int .i64 0) ∧ Below v.heap.size v w') := Lib.hid fun v sn h => by
            have h2 := gCheck_any n (by omega) sn v h
            rwa [hn1] at h2
          clear hn1 hn2 hn3 hs
          obtain ⟨a, cap, rfl, _⟩ := hI
          go_enter Try.func11, Try.ntmps11
          go_wp2_with fail
          refine CG.out.mono ?_
          rintro e w0 ⟨rfl, rfl⟩
          go_wp2_with fail
          refine (CE'.out _ B0.out).mono ?_
          rintro e w1 ⟨rfl, hb1⟩
          have B1 := Lib.hid (B0.out.trans (hb1.mono B0.out.size))
          clear hb1
          go_wp2_with fail
          refine (CD.out _).mono ?_
          rintro e w2 ⟨v2, rfl, h2, hb2⟩
          have B2 := Lib.hid (B1.out.trans (hb2.mono B1.out.size))
          have I2 := Lib.hid h2
          clear h2
          clear hb2
          go_wp2_with fail
          refine (KS.out _ _ _ (FI.out _ B2.out) I2.out).mono ?_
          rintro e w3 ⟨rfl, hb3⟩
          have B3 := Lib.hid (B2.out.trans (hb3.mono B2.out.size))
          clear hb3
          go_wp2_with fail
          refine (CD2.out _).mono ?_
          rintro e w4 ⟨v4, rfl, h4, hb4⟩
          have B4 := Lib.hid (B3.out.trans (hb4.mono B3.out.size))
          have I4 := Lib.hid h4
          clear h4
          clear hb4
          go_wp2_with fail
          refine (CE2.out _ _ I4.out).mono ?_
          rintro e w5 ⟨rfl, hb5⟩
          have B5 := Lib.hid (B4.out.trans (hb5.mono B4.out.size))
          have I5 := Lib.hid (I4.out.onto hb5)
          clear hb5
          go_wp2_with fail
          refine (CK2.out _ _ I5.out).mono ?_
          rintro e w6 ⟨rfl, hb6⟩
          have B6 := Lib.hid (B5.out.trans (hb6.mono B5.out.size))
          clear hb6
          go_wp2_with fail
          refine (CA.out _).mono ?_
          rintro e w7 ⟨rfl, hb7⟩
          have B7 := Lib.hid (B6.out.trans (hb7.mono B6.out.size))
          clear hb7
          go_wp2
          go_ret
          exact ⟨rfl, B7.out⟩
        · have CE2 : Hid (∀ v sn, Ints v.heap.size v sn [] → Calls Try.prog 27 #[sn] v (EncPost v (encO []))) := Lib.hid fun v sn h => gEncode_any [] (by simp) sn v h
          generalize encO [] = eq at *
          obtain ⟨eu, eh⟩ := eq
          clear hs
          obtain ⟨a, cap, rfl, _⟩ := hI
          go_enter Try.func11, Try.ntmps11
          go_wp2_with fail
          refine CG.out.mono ?_
          rintro e w0 ⟨rfl, rfl⟩
          go_wp2_with fail
          refine (CE'.out _ B0.out).mono ?_
          rintro e w1 ⟨rfl, hb1⟩
          have B1 := Lib.hid (B0.out.trans (hb1.mono B0.out.size))
          clear hb1
          go_wp2_with fail
          refine (CD.out _).mono ?_
          rintro e w2 ⟨v2, rfl, h2, hb2⟩
          have B2 := Lib.hid (B1.out.trans (hb2.mono B1.out.size))
          have I2 := Lib.hid h2
          clear h2
          clear hb2
          go_wp2_with fail
          refine (KS.out _ _ _ (FI.out _ B2.out) I2.out).mono ?_
          rintro e w3 ⟨rfl, hb3⟩
          have B3 := Lib.hid (B2.out.trans (hb3.mono B2.out.size))
          clear hb3
          go_wp2_with fail
          refine (CD2.out _).mono ?_
          rintro e w4 ⟨v4, rfl, h4, hb4⟩
          have B4 := Lib.hid (B3.out.trans (hb4.mono B3.out.size))
          have I4 := Lib.hid h4
          obtain ⟨an, cn, ev4, _⟩ := h4
          subst ev4
          clear hb4
          go_wp2_with fail
          refine (CE2.out _ _ I4.out).mono ?_
          rintro e w5 ⟨rfl, hb5⟩
          have B5 := Lib.hid (B4.out.trans (hb5.mono B4.out.size))
          have I5 := Lib.hid (I4.out.onto hb5)
          clear hb5
          go_wp2_with fail
          refine (CA.out _).mono ?_
          rintro e w7 ⟨rfl, hb7⟩
          have B7 := Lib.hid (B5.out.trans (hb7.mono B5.out.size))
          clear hb7
          go_wp2
          go_ret
          exact ⟨rfl, B7.out⟩
      · rw [encO_bad h0] at CE
        have hne : (chk zs == 0) = false := by rw [beq_eq_false_iff_ne]; exact h0
        have CD : Hid (∀ v, Calls Try.prog 29 #[.string ⟨#[]⟩] v (DecOut v (decO []))) := Lib.hid fun v => gDecode_any ⟨#[]⟩ (by decide) v
        have CE' : Hid (∀ v, Below w.heap.size w v → Calls Try.prog 27 #[sv] v fun e w' => e = .returned (.tuple #[.string ⟨#[]⟩, .int .i64 1]) ∧ Below v.heap.size v w') := Lib.hid fun v hb => CE.out v hb
        generalize decO [] = dr at *
        obtain ⟨rm, rf⟩ := dr
        generalize chk zs = c at *
        clear CE hg h0
        rcases DS with ⟨n, rfl, hn1, hn2, hn3⟩ | rfl
        · have CE2 : Hid (∀ v sn, Ints v.heap.size v sn n → Calls Try.prog 27 #[sn] v fun e w' => e = .returned (.tuple #[.string s, .int .i64 0]) ∧ Below v.heap.size v w') := Lib.hid fun v sn h => by
            have h2 := gEncode_any n (by omega) sn v h
            rw [encO_ok hn1] at h2
            rw [hn2]
            exact h2
          have CK2 : Hid (∀ v sn, Ints v.heap.size v sn n → Calls Try.prog 14 #[sn] v fun e w' => e = .returned (.int .i64 0) ∧ Below v.heap.size v w') := Lib.hid fun v sn h => by
            have h2 := gCheck_any n (by omega) sn v h
            rwa [hn1] at h2
          clear hn1 hn2 hn3 hs
          obtain ⟨a, cap, rfl, _⟩ := hI
          go_enter Try.func11, Try.ntmps11
          go_wp2_with fail
          refine CG.out.mono ?_
          rintro e w0 ⟨rfl, rfl⟩
          go_wp2_with fail
          refine (CE'.out _ B0.out).mono ?_
          rintro e w1 ⟨rfl, hb1⟩
          have B1 := Lib.hid (B0.out.trans (hb1.mono B0.out.size))
          clear hb1
          go_wp2_with fail
          refine (CD.out _).mono ?_
          rintro e w2 ⟨v2, rfl, h2, hb2⟩
          have B2 := Lib.hid (B1.out.trans (hb2.mono B1.out.size))
          have I2 := Lib.hid h2
          clear h2
          clear hb2
          go_wp2_with fail
          refine (CK.out _ B2.out).mono ?_
          rintro e w3 ⟨rfl, hb3⟩
          have B3 := Lib.hid (B2.out.trans (hb3.mono B2.out.size))
          clear hb3
          go_wp2_with fail
          refine (CD2.out _).mono ?_
          rintro e w4 ⟨v4, rfl, h4, hb4⟩
          have B4 := Lib.hid (B3.out.trans (hb4.mono B3.out.size))
          have I4 := Lib.hid h4
          clear h4
          clear hb4
          go_wp2_with fail
          refine (CE2.out _ _ I4.out).mono ?_
          rintro e w5 ⟨rfl, hb5⟩
          have B5 := Lib.hid (B4.out.trans (hb5.mono B4.out.size))
          have I5 := Lib.hid (I4.out.onto hb5)
          clear hb5
          go_wp2_with fail
          refine (CK2.out _ _ I5.out).mono ?_
          rintro e w6 ⟨rfl, hb6⟩
          have B6 := Lib.hid (B5.out.trans (hb6.mono B5.out.size))
          clear hb6
          go_wp2_with fail
          refine (CA.out _).mono ?_
          rintro e w7 ⟨rfl, hb7⟩
          have B7 := Lib.hid (B6.out.trans (hb7.mono B6.out.size))
          clear hb7
          go_wp2
          go_ret
          exact ⟨rfl, B7.out⟩
        · have CE2 : Hid (∀ v sn, Ints v.heap.size v sn [] → Calls Try.prog 27 #[sn] v (EncPost v (encO []))) := Lib.hid fun v sn h => gEncode_any [] (by simp) sn v h
          generalize encO [] = eq at *
          obtain ⟨eu, eh⟩ := eq
          clear hs
          obtain ⟨a, cap, rfl, _⟩ := hI
          go_enter Try.func11, Try.ntmps11
          go_wp2_with fail
          refine CG.out.mono ?_
          rintro e w0 ⟨rfl, rfl⟩
          go_wp2_with fail
          refine (CE'.out _ B0.out).mono ?_
          rintro e w1 ⟨rfl, hb1⟩
          have B1 := Lib.hid (B0.out.trans (hb1.mono B0.out.size))
          clear hb1
          go_wp2_with fail
          refine (CD.out _).mono ?_
          rintro e w2 ⟨v2, rfl, h2, hb2⟩
          have B2 := Lib.hid (B1.out.trans (hb2.mono B1.out.size))
          have I2 := Lib.hid h2
          clear h2
          clear hb2
          go_wp2_with fail
          refine (CK.out _ B2.out).mono ?_
          rintro e w3 ⟨rfl, hb3⟩
          have B3 := Lib.hid (B2.out.trans (hb3.mono B2.out.size))
          clear hb3
          go_wp2_with fail
          refine (CD2.out _).mono ?_
          rintro e w4 ⟨v4, rfl, h4, hb4⟩
          have B4 := Lib.hid (B3.out.trans (hb4.mono B3.out.size))
          have I4 := Lib.hid h4
          obtain ⟨an, cn, ev4, _⟩ := h4
          subst ev4
          clear hb4
          go_wp2_with fail
          refine (CE2.out _ _ I4.out).mono ?_
          rintro e w5 ⟨rfl, hb5⟩
          have B5 := Lib.hid (B4.out.trans (hb5.mono B4.out.size))
          have I5 := Lib.hid (I4.out.onto hb5)
          clear hb5
          go_wp2_with fail
          refine (CA.out _).mono ?_
          rintro e w7 ⟨rfl, hb7⟩
          have B7 := Lib.hid (B5.out.trans (hb7.mono B5.out.size))
          clear hb7
          go_wp2
          go_ret
          exact ⟨rfl, B7.out⟩
end Go.Proofs.Ytejnmjaclhmelaa.Po
