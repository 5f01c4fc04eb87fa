/- The walk of the law VarintCanonical. -/
import Derived.Test.YtihblhdiheflaaaBackMath
namespace Go.Proofs.Ytihblhdiheflaaa
open Go.RowKit

theorem canon1 (s : ByteArray) (h : (rd 1152921504606846976 0 0 s.data.toList).2.2 = 0) :
    (rd 1152921504606846976 0 0 s.data.toList).2.1 ≤ s.size ∧ ∀ w, Calls Try.prog 11 #[.string ⟨#[]⟩, .int .i64 ((rd 1152921504606846976 0 0 s.data.toList).1 : Nat)] w fun e w' => e = .returned (.tuple #[.string (s.extract 0 (rd 1152921504606846976 0 0 s.data.toList).2.1), .int .i64 0]) ∧ Below w.heap.size w w' := by
  obtain ⟨m, k, h1, h2, h3, h4, h5, h6, h7⟩ := rd_ok _ _ _ _ h
  have hm : (rd 1152921504606846976 0 0 s.data.toList).1 = m := by rw [h1]; simp
  have hk : (rd 1152921504606846976 0 0 s.data.toList).2.1 = k := by rw [h3]; simp
  rw [hm] at h2 ⊢
  rw [hk, ← ba_size s]
  refine ⟨h5, fun w => ?_⟩
  have e : s.extract 0 k = ⟨(Lib.uvarint m).toArray⟩ := by
    apply ba_ext
    rw [Lib.extract_data, List.drop_zero, Nat.sub_zero, h6]
  rw [e]
  exact append_nil m w h2
theorem canon2 (s : ByteArray) (h : (rd 2305843009213693952 0 0 s.data.toList).2.2 = 0) :
    (rd 2305843009213693952 0 0 s.data.toList).2.1 ≤ s.size ∧ ∀ w, Calls Try.prog 13 #[.string ⟨#[]⟩, .int .i64 (unfold (rd 2305843009213693952 0 0 s.data.toList).1)] w fun e w' => e = .returned (.tuple #[.string (s.extract 0 (rd 2305843009213693952 0 0 s.data.toList).2.1), .int .i64 0]) ∧ Below w.heap.size w w' := by
  obtain ⟨m, k, h1, h2, h3, h4, h5, h6, h7⟩ := rd_ok _ _ _ _ h
  have hm : (rd 2305843009213693952 0 0 s.data.toList).1 = m := by rw [h1]; simp
  have hk : (rd 2305843009213693952 0 0 s.data.toList).2.1 = k := by rw [h3]; simp
  rw [hm] at h2 ⊢
  rw [hk, ← ba_size s]
  refine ⟨h5, fun w => ?_⟩
  have e : s.extract 0 k = ⟨(Lib.uvarint m).toArray⟩ := by
    apply ba_ext
    rw [Lib.extract_data, List.drop_zero, Nat.sub_zero, h6]
  have hin := unfold_inR h2
  have h9 := signed_nil (unfold m) w hin.1 hin.2
  rw [fold_unfold] at h9
  rw [e]
  exact h9
theorem canon3 (s : ByteArray) (zs : List Int) (h : dec s.data.toList = (zs, 0)) (sv : Value) (w : World) (hI : IntsAt w.heap.size w sv zs) :
    Calls Try.prog 21 #[sv] w fun e w' => e = .returned (.tuple #[.string s, .int .i64 0]) ∧ Below w.heap.size w w' := by
  obtain ⟨h1, h2, h3⟩ := dec_ok h
  refine (encode_any zs h2 sv w hI).mono ?_
  rintro e w' ⟨rfl, hb⟩
  have e : (⟨(enc zs).toArray⟩ : ByteArray) = s := by
    apply ba_ext
    rw [h1]
  exact ⟨by rw [encOut_ok h3, e], hb⟩

set_option maxHeartbeats 4000000 in
set_option maxRecDepth 100000 in
theorem canonical_walk (s : ByteArray) (w : World) (hs : s.size ≤ maxLen) :
    Calls Try.prog 7 #[.string s] w fun e w' => e = .returned (.bool true) ∧ Below w.heap.size w w' := by
  unfold maxLen at hs
  by_cases h200 : 200 < s.size
  · go_enter Try.func7, Try.ntmps7
    go_wp2_with fail
    refine (awake_any _).mono ?_
    rintro e w1 ⟨rfl, hb⟩
    go_wp2
    go_ret
    exact ⟨rfl, hb⟩
  · have hs2 : s.size ≤ 1000 := by omega
    have q1 := fun w => read_any s hs2 w
    have q3 := fun w => readSigned_any s hs2 w
    have q5 := fun w => decode_any s hs2 w
    have c1 := canon1 s
    have c2 := canon2 s
    have c3 := canon3 s
    generalize rd 1152921504606846976 0 0 s.data.toList = r1 at *
    generalize rd 2305843009213693952 0 0 s.data.toList = r2 at *
    generalize dec s.data.toList = r3 at *
    obtain ⟨n1, k1, e1⟩ := r1
    obtain ⟨n2, k2, e2⟩ := r2
    obtain ⟨zs, e3⟩ := r3
    dsimp only at *
    have Q1 := Lib.hid q1
    have Q3 := Lib.hid q3
    have Q5 := Lib.hid q5
    have C1 := Lib.hid c1
    have C2 := Lib.hid c2
    have C3 := Lib.hid c3
    clear q1 q3 q5 c1 c2 c3
    have g1 : e1 = 0 ∨ ((e1 : Int) == 0) = false := if h : e1 = 0 then .inl h else .inr (beq_eq_false_iff_ne.2 (by omega))
    have g2 : e2 = 0 ∨ ((e2 : Int) == 0) = false := if h : e2 = 0 then .inl h else .inr (beq_eq_false_iff_ne.2 (by omega))
    have g3 : e3 = 0 ∨ ((e3 : Int) == 0) = false := if h : e3 = 0 then .inl h else .inr (beq_eq_false_iff_ne.2 (by omega))
    rcases g1 with rfl | g1 <;> rcases g2 with rfl | g2 <;> rcases g3 with rfl | g3
    · obtain ⟨hk1, p1⟩ := C1.out rfl
      have P1 := Lib.hid p1
      clear p1
      obtain ⟨hk2, p2⟩ := C2.out rfl
      have P2 := Lib.hid p2
      clear p2
      have P3 := Lib.hid (C3.out zs rfl)
      clear C1 C2 C3
      go_enter Try.func7, Try.ntmps7
      go_wp2_with fail
      refine (Q1.out _).mono ?_
      rintro e w1 ⟨rfl, hb⟩
      have H1 := Lib.hid hb
      clear hb
      go_wp2_with fail
      refine (P1.out _).mono ?_
      rintro e w2 ⟨rfl, hb⟩
      have H2 := Lib.hid (H1.out.trans (hb.mono H1.out.size))
      clear hb H1
      go_wp2_with fail
      refine (Q3.out _).mono ?_
      rintro e w3 ⟨rfl, hb⟩
      have H3 := Lib.hid (H2.out.trans (hb.mono H2.out.size))
      clear hb H2
      go_wp2_with fail
      refine (P2.out _).mono ?_
      rintro e w4 ⟨rfl, hb⟩
      have H4 := Lib.hid (H3.out.trans (hb.mono H3.out.size))
      clear hb H3
      go_wp2_with fail
      refine (Q5.out _).mono ?_
      rintro e w5 ⟨v, rfl, hown, hb⟩
      have IV := Lib.hid (intsAt_own hown (Nat.le_refl _))
      clear hown
      have H5 := Lib.hid (H4.out.trans (hb.mono H4.out.size))
      clear hb H4
      go_wp2_with fail
      refine (P3.out _ _ IV.out).mono ?_
      rintro e w6 ⟨rfl, hb⟩
      have H6 := Lib.hid (H5.out.trans (hb.mono H5.out.size))
      clear hb H5
      go_wp2_with fail
      refine (awake_any _).mono ?_
      rintro e w7 ⟨rfl, hb⟩
      have H7 := Lib.hid (H6.out.trans (hb.mono H6.out.size))
      clear hb H6
      go_wp2
      go_ret
      exact ⟨rfl, H7.out⟩
    · obtain ⟨hk1, p1⟩ := C1.out rfl
      have P1 := Lib.hid p1
      clear p1
      obtain ⟨hk2, p2⟩ := C2.out rfl
      have P2 := Lib.hid p2
      clear p2
      clear C1 C2 C3
      go_enter Try.func7, Try.ntmps7
      go_wp2_with fail
      refine (Q1.out _).mono ?_
      rintro e w1 ⟨rfl, hb⟩
      have H1 := Lib.hid hb
      clear hb
      go_wp2_with fail
      refine (P1.out _).mono ?_
      rintro e w2 ⟨rfl, hb⟩
      have H2 := Lib.hid (H1.out.trans (hb.mono H1.out.size))
      clear hb H1
      go_wp2_with fail
      refine (Q3.out _).mono ?_
      rintro e w3 ⟨rfl, hb⟩
      have H3 := Lib.hid (H2.out.trans (hb.mono H2.out.size))
      clear hb H2
      go_wp2_with fail
      refine (P2.out _).mono ?_
      rintro e w4 ⟨rfl, hb⟩
      have H4 := Lib.hid (H3.out.trans (hb.mono H3.out.size))
      clear hb H3
      go_wp2_with fail
      refine (Q5.out _).mono ?_
      rintro e w5 ⟨v, rfl, hown, hb⟩
      have IV := Lib.hid (intsAt_own hown (Nat.le_refl _))
      clear hown
      have H5 := Lib.hid (H4.out.trans (hb.mono H4.out.size))
      clear hb H4
      go_wp2_with fail
      refine (awake_any _).mono ?_
      rintro e w6 ⟨rfl, hb⟩
      have H6 := Lib.hid (H5.out.trans (hb.mono H5.out.size))
      clear hb H5
      go_wp2
      go_ret
      exact ⟨rfl, H6.out⟩
    · obtain ⟨hk1, p1⟩ := C1.out rfl
      have P1 := Lib.hid p1
      clear p1
      have P3 := Lib.hid (C3.out zs rfl)
      clear C1 C2 C3
      go_enter Try.func7, Try.ntmps7
      go_wp2_with fail
      refine (Q1.out _).mono ?_
      rintro e w1 ⟨rfl, hb⟩
      have H1 := Lib.hid hb
      clear hb
      go_wp2_with fail
      refine (P1.out _).mono ?_
      rintro e w2 ⟨rfl, hb⟩
      have H2 := Lib.hid (H1.out.trans (hb.mono H1.out.size))
      clear hb H1
      go_wp2_with fail
      refine (Q3.out _).mono ?_
      rintro e w3 ⟨rfl, hb⟩
      have H3 := Lib.hid (H2.out.trans (hb.mono H2.out.size))
      clear hb H2
      go_wp2_with fail
      refine (Q5.out _).mono ?_
      rintro e w4 ⟨v, rfl, hown, hb⟩
      have IV := Lib.hid (intsAt_own hown (Nat.le_refl _))
      clear hown
      have H4 := Lib.hid (H3.out.trans (hb.mono H3.out.size))
      clear hb H3
      go_wp2_with fail
      refine (P3.out _ _ IV.out).mono ?_
      rintro e w5 ⟨rfl, hb⟩
      have H5 := Lib.hid (H4.out.trans (hb.mono H4.out.size))
      clear hb H4
      go_wp2_with fail
      refine (awake_any _).mono ?_
      rintro e w6 ⟨rfl, hb⟩
      have H6 := Lib.hid (H5.out.trans (hb.mono H5.out.size))
      clear hb H5
      go_wp2
      go_ret
      exact ⟨rfl, H6.out⟩
    · obtain ⟨hk1, p1⟩ := C1.out rfl
      have P1 := Lib.hid p1
      clear p1
      clear C1 C2 C3
      go_enter Try.func7, Try.ntmps7
      go_wp2_with fail
      refine (Q1.out _).mono ?_
      rintro e w1 ⟨rfl, hb⟩
      have H1 := Lib.hid hb
      clear hb
      go_wp2_with fail
      refine (P1.out _).mono ?_
      rintro e w2 ⟨rfl, hb⟩
      have H2 := Lib.hid (H1.out.trans (hb.mono H1.out.size))
      clear hb H1
      go_wp2_with fail
      refine (Q3.out _).mono ?_
      rintro e w3 ⟨rfl, hb⟩
      have H3 := Lib.hid (H2.out.trans (hb.mono H2.out.size))
      clear hb H2
      go_wp2_with fail
      refine (Q5.out _).mono ?_
      rintro e w4 ⟨v, rfl, hown, hb⟩
      have IV := Lib.hid (intsAt_own hown (Nat.le_refl _))
      clear hown
      have H4 := Lib.hid (H3.out.trans (hb.mono H3.out.size))
      clear hb H3
      go_wp2_with fail
      refine (awake_any _).mono ?_
      rintro e w5 ⟨rfl, hb⟩
      have H5 := Lib.hid (H4.out.trans (hb.mono H4.out.size))
      clear hb H4
      go_wp2
      go_ret
      exact ⟨rfl, H5.out⟩
    · obtain ⟨hk2, p2⟩ := C2.out rfl
      have P2 := Lib.hid p2
      clear p2
      have P3 := Lib.hid (C3.out zs rfl)
      clear C1 C2 C3
      go_enter Try.func7, Try.ntmps7
      go_wp2_with fail
      refine (Q1.out _).mono ?_
      rintro e w1 ⟨rfl, hb⟩
      have H1 := Lib.hid hb
      clear hb
      go_wp2_with fail
      refine (Q3.out _).mono ?_
      rintro e w2 ⟨rfl, hb⟩
      have H2 := Lib.hid (H1.out.trans (hb.mono H1.out.size))
      clear hb H1
      go_wp2_with fail
      refine (P2.out _).mono ?_
      rintro e w3 ⟨rfl, hb⟩
      have H3 := Lib.hid (H2.out.trans (hb.mono H2.out.size))
      clear hb H2
      go_wp2_with fail
      refine (Q5.out _).mono ?_
      rintro e w4 ⟨v, rfl, hown, hb⟩
      have IV := Lib.hid (intsAt_own hown (Nat.le_refl _))
      clear hown
      have H4 := Lib.hid (H3.out.trans (hb.mono H3.out.size))
      clear hb H3
      go_wp2_with fail
      refine (P3.out _ _ IV.out).mono ?_
      rintro e w5 ⟨rfl, hb⟩
      have H5 := Lib.hid (H4.out.trans (hb.mono H4.out.size))
      clear hb H4
      go_wp2_with fail
      refine (awake_any _).mono ?_
      rintro e w6 ⟨rfl, hb⟩
      have H6 := Lib.hid (H5.out.trans (hb.mono H5.out.size))
      clear hb H5
      go_wp2
      go_ret
      exact ⟨rfl, H6.out⟩
    · obtain ⟨hk2, p2⟩ := C2.out rfl
      have P2 := Lib.hid p2
      clear p2
      clear C1 C2 C3
      go_enter Try.func7, Try.ntmps7
      go_wp2_with fail
      refine (Q1.out _).mono ?_
      rintro e w1 ⟨rfl, hb⟩
      have H1 := Lib.hid hb
      clear hb
      go_wp2_with fail
      refine (Q3.out _).mono ?_
      rintro e w2 ⟨rfl, hb⟩
      have H2 := Lib.hid (H1.out.trans (hb.mono H1.out.size))
      clear hb H1
      go_wp2_with fail
      refine (P2.out _).mono ?_
      rintro e w3 ⟨rfl, hb⟩
      have H3 := Lib.hid (H2.out.trans (hb.mono H2.out.size))
      clear hb H2
      go_wp2_with fail
      refine (Q5.out _).mono ?_
      rintro e w4 ⟨v, rfl, hown, hb⟩
      have IV := Lib.hid (intsAt_own hown (Nat.le_refl _))
      clear hown
      have H4 := Lib.hid (H3.out.trans (hb.mono H3.out.size))
      clear hb H3
      go_wp2_with fail
      refine (awake_any _).mono ?_
      rintro e w5 ⟨rfl, hb⟩
      have H5 := Lib.hid (H4.out.trans (hb.mono H4.out.size))
      clear hb H4
      go_wp2
      go_ret
      exact ⟨rfl, H5.out⟩
    · have P3 := Lib.hid (C3.out zs rfl)
      clear C1 C2 C3
      go_enter Try.func7, Try.ntmps7
      go_wp2_with fail
      refine (Q1.out _).mono ?_
      rintro e w1 ⟨rfl, hb⟩
      have H1 := Lib.hid hb
      clear hb
      go_wp2_with fail
      refine (Q3.out _).mono ?_
      rintro e w2 ⟨rfl, hb⟩
      have H2 := Lib.hid (H1.out.trans (hb.mono H1.out.size))
      clear hb H1
      go_wp2_with fail
      refine (Q5.out _).mono ?_
      rintro e w3 ⟨v, rfl, hown, hb⟩
      have IV := Lib.hid (intsAt_own hown (Nat.le_refl _))
      clear hown
      have H3 := Lib.hid (H2.out.trans (hb.mono H2.out.size))
      clear hb H2
      go_wp2_with fail
      refine (P3.out _ _ IV.out).mono ?_
      rintro e w4 ⟨rfl, hb⟩
      have H4 := Lib.hid (H3.out.trans (hb.mono H3.out.size))
      clear hb H3
      go_wp2_with fail
      refine (awake_any _).mono ?_
      rintro e w5 ⟨rfl, hb⟩
      have H5 := Lib.hid (H4.out.trans (hb.mono H4.out.size))
      clear hb H4
      go_wp2
      go_ret
      exact ⟨rfl, H5.out⟩
    · clear C1 C2 C3
      go_enter Try.func7, Try.ntmps7
      go_wp2_with fail
      refine (Q1.out _).mono ?_
      rintro e w1 ⟨rfl, hb⟩
      have H1 := Lib.hid hb
      clear hb
      go_wp2_with fail
      refine (Q3.out _).mono ?_
      rintro e w2 ⟨rfl, hb⟩
      have H2 := Lib.hid (H1.out.trans (hb.mono H1.out.size))
      clear hb H1
      go_wp2_with fail
      refine (Q5.out _).mono ?_
      rintro e w3 ⟨v, rfl, hown, hb⟩
      have IV := Lib.hid (intsAt_own hown (Nat.le_refl _))
      clear hown
      have H3 := Lib.hid (H2.out.trans (hb.mono H2.out.size))
      clear hb H2
      go_wp2_with fail
      refine (awake_any _).mono ?_
      rintro e w4 ⟨rfl, hb⟩
      have H4 := Lib.hid (H3.out.trans (hb.mono H3.out.size))
      clear hb H3
      go_wp2
      go_ret
      exact ⟨rfl, H4.out⟩
end Go.Proofs.Ytihblhdiheflaaa
