/- The walks of the laws of layer 2: each call by its contract. -/
import Derived.Test.YtnkaigmonkmedaaStr
namespace Go.Proofs.Ytnkaigmonkmedaa
open Go.RowKit

set_option maxHeartbeats 1000000 in
set_option maxRecDepth 100000 in
theorem sum_walk (c : Nat) (s : ByteArray) (w : World) (hc : c < 4294967296) (hs : s.size ≤ maxLen) :
    Calls Try.prog 3 #[.int .u32 c, .string s] w fun e w' => e = .returned (.bool true) ∧ Below w.heap.size w w' := by
  have hm : maxLen = 9223372036854775807 := by unfold maxLen; rfl
  by_cases h6 : 600 < s.size
  · rw [hm] at hs
    go_enter Try.func3, Try.ntmps3
    go_wp2_with fail
    refine (awake_any _).mono ?_
    rintro e w1 ⟨rfl, hb1⟩
    have H1 : Hid (Below w.heap.size w w1) := hb1
    clear hb1
    go_wp2
    go_ret
    exact ⟨rfl, H1.out⟩
  · have Q12 := Lib.hid fun w => sum_any s w hs
    have Q13 := Lib.hid fun w => refSum_any s w hs
    have Q14 := Lib.hid fun w => update_any c s w hc hs
    have Q15 := Lib.hid fun w => refUpdate_any c s w hc hs
    generalize sumC s.data.toList = x at *
    generalize updC c s.data.toList = y at *
    rw [hm] at hs
    go_enter Try.func3, Try.ntmps3
    go_wp2_with fail
    refine (Q12.out _).mono ?_
    rintro e x1 ⟨rfl, rfl⟩
    go_wp2_with fail
    refine (Q13.out _).mono ?_
    rintro e x2 ⟨rfl, rfl⟩
    go_wp2_with fail
    refine (Q14.out _).mono ?_
    rintro e x3 ⟨rfl, rfl⟩
    go_wp2_with fail
    refine (Q15.out _).mono ?_
    rintro e x4 ⟨rfl, rfl⟩
    go_wp2_with fail
    refine (awake_any _).mono ?_
    rintro e w5 ⟨rfl, hb5⟩
    have H5 : Hid (Below w.heap.size w w5) := hb5
    clear hb5
    go_wp2
    go_ret
    exact ⟨rfl, H5.out⟩
set_option maxHeartbeats 1000000 in
set_option maxRecDepth 100000 in
theorem combine_walk (a b : Nat) (n : Int) (w : World) (ha : a < 4294967296) (hb : b < 4294967296) (hn1 : -9223372036854775808 ≤ n) (hn2 : n < 9223372036854775808) :
    Calls Try.prog 4 #[.int .u32 a, .int .u32 b, .int .i64 n] w fun e w' => e = .returned (.bool true) ∧ Below w.heap.size w w' := by
  by_cases h0 : n < 0
  · have Q17 := Lib.hid fun w => combine_neg a b n h0 hn1 w
    have Q18 := Lib.hid fun w => refCombine_neg a b n h0 hn1 w
    go_enter Try.func4, Try.ntmps4
    go_wp2_with fail
    refine (Q17.out _).mono ?_
    rintro e w1 ⟨rfl, hb1⟩
    have H1 : Hid (Below w.heap.size w w1) := hb1
    clear hb1
    go_wp2_with fail
    refine (Q18.out _).mono ?_
    rintro e w2 ⟨rfl, hb2⟩
    have H2 : Hid (Below w.heap.size w w2) := (H1.out.trans (hb2.mono H1.out.size))
    clear hb2 H1
    go_wp2_with fail
    refine (awake_any _).mono ?_
    rintro e w3 ⟨rfl, hb3⟩
    have H3 : Hid (Below w.heap.size w w3) := (H2.out.trans (hb3.mono H2.out.size))
    clear hb3 H2
    go_wp2
    go_ret
    exact ⟨rfl, H3.out⟩
  · obtain ⟨m, rfl⟩ := Int.eq_ofNat_of_zero_le (show 0 ≤ n by omega)
    have Q17 := Lib.hid fun w => combine_any a b m ha hb (by omega) w
    have Q18 := Lib.hid fun w => refCombine_any a b m ha hb (by omega) w
    generalize combC a b m = y at *
    go_enter Try.func4, Try.ntmps4
    go_wp2_with fail
    refine (Q17.out _).mono ?_
    rintro e w1 ⟨rfl, hb1⟩
    have H1 : Hid (Below w.heap.size w w1) := hb1
    clear hb1
    go_wp2_with fail
    refine (Q18.out _).mono ?_
    rintro e w2 ⟨rfl, hb2⟩
    have H2 : Hid (Below w.heap.size w w2) := (H1.out.trans (hb2.mono H1.out.size))
    clear hb2 H1
    go_wp2_with fail
    refine (awake_any _).mono ?_
    rintro e w3 ⟨rfl, hb3⟩
    have H3 : Hid (Below w.heap.size w w3) := (H2.out.trans (hb3.mono H2.out.size))
    clear hb3 H2
    go_wp2
    go_ret
    exact ⟨rfl, H3.out⟩
set_option maxHeartbeats 1000000 in
set_option maxRecDepth 100000 in
theorem open_walk (s : ByteArray) (w : World) (hs : s.size ≤ maxLen) :
    Calls Try.prog 5 #[.string s] w fun e w' => e = .returned (.bool true) ∧ Below w.heap.size w w' := by
  unfold maxLen at hs
  by_cases h6 : 600 < s.size
  · go_enter Try.func5, Try.ntmps5
    go_wp2_with fail
    refine (awake_any _).mono ?_
    rintro e w1 ⟨rfl, hb1⟩
    have H1 : Hid (Below w.heap.size w w1) := hb1
    clear hb1
    go_wp2
    go_ret
    exact ⟨rfl, H1.out⟩
  · have q19 := fun w => open_any s (by omega) w
    have q20 := fun w => refOpen_any s (by omega) w
    have Q21 := Lib.hid fun w => seal_S s (by omega) w
    have Q22 := Lib.hid fun w => refSeal_S s (by omega) w
    obtain ⟨u, f, hu, hf, _⟩ := openOut_form s
    rw [hu] at q19 q20
    have Q19 := Lib.hid q19
    have Q20 := Lib.hid q20
    clear q19 q20 hu
    generalize sealS s = z at *
    go_enter Try.func5, Try.ntmps5
    go_wp2_with fail
    refine (Q19.out _).mono ?_
    rintro e w1 ⟨rfl, hb1⟩
    have H1 : Hid (Below w.heap.size w w1) := hb1
    clear hb1
    go_wp2_with fail
    refine (Q20.out _).mono ?_
    rintro e w2 ⟨rfl, hb2⟩
    have H2 : Hid (Below w.heap.size w w2) := (H1.out.trans (hb2.mono H1.out.size))
    clear hb2 H1
    go_wp2_with fail
    refine (Q21.out _).mono ?_
    rintro e w3 ⟨rfl, hb3⟩
    have H3 : Hid (Below w.heap.size w w3) := (H2.out.trans (hb3.mono H2.out.size))
    clear hb3 H2
    go_wp2_with fail
    refine (Q22.out _).mono ?_
    rintro e w4 ⟨rfl, hb4⟩
    have H4 : Hid (Below w.heap.size w w4) := (H3.out.trans (hb4.mono H3.out.size))
    clear hb4 H3
    go_wp2_with fail
    refine (awake_any _).mono ?_
    rintro e w5 ⟨rfl, hb5⟩
    have H5 : Hid (Below w.heap.size w w5) := (H4.out.trans (hb5.mono H4.out.size))
    clear hb5 H4
    go_wp2
    go_ret
    exact ⟨rfl, H5.out⟩
set_option maxHeartbeats 1000000 in
set_option maxRecDepth 100000 in
theorem seals_walk (s : ByteArray) (w : World) (hs : s.size ≤ maxLen) :
    Calls Try.prog 10 #[.string s] w fun e w' => e = .returned (.bool true) ∧ Below w.heap.size w w' := by
  unfold maxLen at hs
  by_cases h6 : 600 < s.size
  · go_enter Try.func10, Try.ntmps10
    go_wp2_with fail
    refine (awake_any _).mono ?_
    rintro e w1 ⟨rfl, hb1⟩
    have H1 : Hid (Below w.heap.size w w1) := hb1
    clear hb1
    go_wp2
    go_ret
    exact ⟨rfl, H1.out⟩
  · have Q21 := Lib.hid fun w => seal_S s (by omega) w
    have q19 := fun w => open_any (sealS s) (by rw [sealS_size]; omega) w
    have q12 := fun w => sum_any (sealS s) w (by rw [sealS_size]; unfold maxLen; omega)
    rw [openOut_ok] at q19
    rw [sealS_data, sumC_seal] at q12
    have Q19 := Lib.hid q19
    have Q12 := Lib.hid q12
    clear q19 q12
    generalize sealS s = z at *
    go_enter Try.func10, Try.ntmps10
    go_wp2_with fail
    refine (Q21.out _).mono ?_
    rintro e w1 ⟨rfl, hb1⟩
    have H1 : Hid (Below w.heap.size w w1) := hb1
    clear hb1
    go_wp2_with fail
    refine (Q19.out _).mono ?_
    rintro e w2 ⟨rfl, hb2⟩
    have H2 : Hid (Below w.heap.size w w2) := (H1.out.trans (hb2.mono H1.out.size))
    clear hb2 H1
    go_wp2_with fail
    refine (Q12.out _).mono ?_
    rintro e x3 ⟨rfl, rfl⟩
    go_wp2_with fail
    refine (awake_any _).mono ?_
    rintro e w4 ⟨rfl, hb4⟩
    have H4 : Hid (Below w.heap.size w w4) := (H2.out.trans (hb4.mono H2.out.size))
    clear hb4 H2
    go_wp2
    go_ret
    exact ⟨rfl, H4.out⟩
set_option maxHeartbeats 1000000 in
set_option maxRecDepth 100000 in
theorem concat_walk (s t : ByteArray) (w : World) (hs : s.size ≤ maxLen) (ht : t.size ≤ maxLen) :
    Calls Try.prog 6 #[.string s, .string t] w fun e w' => e = .returned (.bool true) ∧ Below w.heap.size w w' := by
  have hm : maxLen = 9223372036854775807 := by unfold maxLen; rfl
  by_cases h3 : 300 < s.size
  · rw [hm] at hs ht
    go_enter Try.func6, Try.ntmps6
    go_wp2_with fail
    refine (awake_any _).mono ?_
    rintro e w1 ⟨rfl, hb1⟩
    have H1 : Hid (Below w.heap.size w w1) := hb1
    clear hb1
    go_wp2
    go_ret
    exact ⟨rfl, H1.out⟩
  · by_cases h4 : 300 < t.size
    · rw [hm] at hs ht
      go_enter Try.func6, Try.ntmps6
      go_wp2_with fail
      refine (awake_any _).mono ?_
      rintro e w1 ⟨rfl, hb1⟩
      have H1 : Hid (Below w.heap.size w w1) := hb1
      clear hb1
      go_wp2
      go_ret
      exact ⟨rfl, H1.out⟩
    · have hst : (s ++ t).size ≤ maxLen := by rw [hm, ByteArray.size_append]; omega
      have Qs := Lib.hid fun w => sum_any s w hs
      have Qt := Lib.hid fun w => sum_any t w ht
      have qst := fun w => sum_any (s ++ t) w hst
      have hls := sumC_lt s.data.toList
      have hlt := sumC_lt t.data.toList
      have qu := fun w => update_any (sumC s.data.toList) t w hls ht
      have qc := fun w => combine_any (sumC s.data.toList) (sumC t.data.toList) t.size hls hlt (by omega) w
      have q0 := fun w => update_any 0 s w (by omega) hs
      rw [updC_zero] at q0
      have e1 : sumC (s ++ t).data.toList = updC (sumC s.data.toList) t.data.toList := by rw [ba_append, sumC_append_upd]
      have e2 : combC (sumC s.data.toList) (sumC t.data.toList) t.size = updC (sumC s.data.toList) t.data.toList := by
        rw [← sumC_append_upd, sumC_append_comb, ba_size]
      rw [e1] at qst
      rw [e2] at qc
      have Qst := Lib.hid qst
      have Qu := Lib.hid qu
      have Qc := Lib.hid qc
      have Q0 := Lib.hid q0
      clear e1 e2 qst qu qc q0
      generalize updC (sumC s.data.toList) t.data.toList = z at *
      generalize sumC s.data.toList = x at *
      generalize sumC t.data.toList = y at *
      rw [hm] at hs ht
      clear hst
      go_enter Try.func6, Try.ntmps6
      go_wp2_with fail
      refine (Qs.out _).mono ?_
      rintro e x1 ⟨rfl, rfl⟩
      go_wp2_with fail
      refine (Qt.out _).mono ?_
      rintro e x2 ⟨rfl, rfl⟩
      go_wp2_with fail
      refine (Qst.out _).mono ?_
      rintro e x3 ⟨rfl, rfl⟩
      go_wp2_with fail
      refine (Qu.out _).mono ?_
      rintro e x4 ⟨rfl, rfl⟩
      go_wp2_with fail
      refine (Qc.out _).mono ?_
      rintro e w5 ⟨rfl, hb5⟩
      have H5 : Hid (Below w.heap.size w w5) := hb5
      clear hb5
      go_wp2_with fail
      refine (Q0.out _).mono ?_
      rintro e x6 ⟨rfl, rfl⟩
      go_wp2_with fail
      refine (awake_any _).mono ?_
      rintro e w7 ⟨rfl, hb7⟩
      have H7 : Hid (Below w.heap.size w w7) := (H5.out.trans (hb7.mono H5.out.size))
      clear hb7 H5
      go_wp2
      go_ret
      exact ⟨rfl, H7.out⟩
set_option maxHeartbeats 1000000 in
set_option maxRecDepth 100000 in
theorem associative_walk (a b c : Nat) (m n : Int) (w : World) (ha : a < 4294967296) (hb : b < 4294967296) (hc : c < 4294967296) (hm1 : -9223372036854775808 ≤ m) (hm2 : m < 9223372036854775808) (hn1 : -9223372036854775808 ≤ n) (hn2 : n < 9223372036854775808) :
    Calls Try.prog 11 #[.int .u32 a, .int .u32 b, .int .u32 c, .int .i64 m, .int .i64 n] w fun e w' => e = .returned (.bool true) ∧ Below w.heap.size w w' := by
  by_cases h0 : m < 0
  · go_enter Try.func11, Try.ntmps11
    go_wp2_with fail
    refine (awake_any _).mono ?_
    rintro e w1 ⟨rfl, hb1⟩
    have H1 : Hid (Below w.heap.size w w1) := hb1
    clear hb1
    go_wp2
    go_ret
    exact ⟨rfl, H1.out⟩
  · by_cases h1 : n < 0
    · go_enter Try.func11, Try.ntmps11
      go_wp2_with fail
      refine (awake_any _).mono ?_
      rintro e w1 ⟨rfl, hb1⟩
      have H1 : Hid (Below w.heap.size w w1) := hb1
      clear hb1
      go_wp2
      go_ret
      exact ⟨rfl, H1.out⟩
    · by_cases h2 : 576460752303423488 < m
      · go_enter Try.func11, Try.ntmps11
        go_wp2_with fail
        refine (awake_any _).mono ?_
        rintro e w1 ⟨rfl, hb1⟩
        have H1 : Hid (Below w.heap.size w w1) := hb1
        clear hb1
        go_wp2
        go_ret
        exact ⟨rfl, H1.out⟩
      · by_cases h3 : 576460752303423488 < n
        · go_enter Try.func11, Try.ntmps11
          go_wp2_with fail
          refine (awake_any _).mono ?_
          rintro e w1 ⟨rfl, hb1⟩
          have H1 : Hid (Below w.heap.size w w1) := hb1
          clear hb1
          go_wp2
          go_ret
          exact ⟨rfl, H1.out⟩
        · obtain ⟨m, rfl⟩ := Int.eq_ofNat_of_zero_le (show 0 ≤ m by omega)
          obtain ⟨n, rfl⟩ := Int.eq_ofNat_of_zero_le (show 0 ≤ n by omega)
          have hab := combC_lt m ha hb
          have hbc := combC_lt n hb hc
          have Q1 := Lib.hid fun w => combine_any a b m ha hb (by omega) w
          have q2 := fun w => combine_any (combC a b m) c n hab hc (by omega) w
          have Q3 := Lib.hid fun w => combine_any b c n hb hc (by omega) w
          have q4 := fun w => combine_any a (combC b c n) (m + n) ha hbc (by omega) w
          rw [combC_assoc] at q2
          rw [show ((m + n : Nat) : Int) = (m : Int) + n by omega] at q4
          have Q2 := Lib.hid q2
          have Q4 := Lib.hid q4
          clear q2 q4
          generalize combC a (combC b c n) (m + n) = z at *
          generalize combC a b m = x at *
          generalize combC b c n = y at *
          go_enter Try.func11, Try.ntmps11
          go_wp2_with fail
          refine (Q1.out _).mono ?_
          rintro e w1 ⟨rfl, hb1⟩
          have H1 : Hid (Below w.heap.size w w1) := hb1
          clear hb1
          go_wp2_with fail
          refine (Q2.out _).mono ?_
          rintro e w2 ⟨rfl, hb2⟩
          have H2 : Hid (Below w.heap.size w w2) := (H1.out.trans (hb2.mono H1.out.size))
          clear hb2 H1
          go_wp2_with fail
          refine (Q3.out _).mono ?_
          rintro e w3 ⟨rfl, hb3⟩
          have H3 : Hid (Below w.heap.size w w3) := (H2.out.trans (hb3.mono H2.out.size))
          clear hb3 H2
          go_wp2_with fail
          refine (Q4.out _).mono ?_
          rintro e w4 ⟨rfl, hb4⟩
          have H4 : Hid (Below w.heap.size w w4) := (H3.out.trans (hb4.mono H3.out.size))
          clear hb4 H3
          go_wp2_with fail
          refine (awake_any _).mono ?_
          rintro e w5 ⟨rfl, hb5⟩
          have H5 : Hid (Below w.heap.size w w5) := (H4.out.trans (hb5.mono H4.out.size))
          clear hb5 H4
          go_wp2
          go_ret
          exact ⟨rfl, H5.out⟩
end Go.Proofs.Ytnkaigmonkmedaa
