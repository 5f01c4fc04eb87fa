/- The walk of the law VarintNumbers: each call by its contract. -/
import Derived.Test.YtihblhdiheflaaaAwake
namespace Go.Proofs.Ytihblhdiheflaaa
open Go.RowKit

set_option maxHeartbeats 1000000 in
set_option maxRecDepth 100000 in
theorem numbers_walk (s : ByteArray) (n : Int) (w : World) (hs : s.size ≤ maxLen) :
    Calls Try.prog 3 #[.string s, .int .i64 n] w fun e w' => e = .returned (.bool true) ∧ Below w.heap.size w w' := by
  unfold maxLen at hs
  by_cases h50 : 50 < s.size
  · go_enter Try.func3, Try.ntmps3
    go_wp2_with fail
    refine (awake_any _).mono ?_
    rintro e w1 ⟨rfl, hb⟩
    go_wp2
    go_ret
    exact ⟨rfl, hb⟩
  · have hs2 : s.size ≤ 1000 := by omega
    by_cases hA : 0 ≤ n ∧ n ≤ 1152921504606846976
    · obtain ⟨hA1, hA2⟩ := hA
      obtain ⟨m, rfl⟩ := Int.eq_ofNat_of_zero_le hA1
      go_enter Try.func3, Try.ntmps3
      go_wp2_with fail
      refine (append_any s m w hs2 (by omega)).mono ?_
      rintro e w1 ⟨rfl, hb1⟩
      have H1 : Hid (Below w.heap.size w w1) := hb1
      clear hb1
      go_wp2_with fail
      refine (refAppend_any s m w1 hs2 (by omega)).mono ?_
      rintro e w2 ⟨rfl, hb2⟩
      have H2 : Hid (Below w.heap.size w w2) := (H1.out.trans (hb2.mono H1.out.size))
      clear hb2 H1
      go_wp2_with fail
      refine (signed_any s m w2 hs2 (by omega) (by omega)).mono ?_
      rintro e w3 ⟨rfl, hb3⟩
      have H3 : Hid (Below w.heap.size w w3) := (H2.out.trans (hb3.mono H2.out.size))
      clear hb3 H2
      go_wp2_with fail
      refine (refSigned_any s m w3 hs2 (by omega) (by omega)).mono ?_
      rintro e w4 ⟨rfl, hb4⟩
      have H4 : Hid (Below w.heap.size w w4) := (H3.out.trans (hb4.mono H3.out.size))
      clear hb4 H3
      go_wp2_with fail
      refine (size_any m w4 (by omega)).mono ?_
      rintro e w5 ⟨rfl, hb5⟩
      have H5 : Hid (Below w.heap.size w w5) := (H4.out.trans (hb5.mono H4.out.size))
      clear hb5 H4
      go_wp2_with fail
      refine (refSize_any m w5 (by omega)).mono ?_
      rintro e w6 ⟨rfl, hb6⟩
      have H6 : Hid (Below w.heap.size w w6) := (H5.out.trans (hb6.mono H5.out.size))
      clear hb6 H5
      go_wp2_with fail
      refine (awake_any w6).mono ?_
      rintro e w7 ⟨rfl, hb7⟩
      have H7 : Hid (Below w.heap.size w w7) := (H6.out.trans (hb7.mono H6.out.size))
      clear hb7 H6
      go_wp2
      go_ret
      exact ⟨rfl, H7.out⟩
    · have hA' : n < 0 ∨ 1152921504606846976 < n := by omega
      by_cases hB : -1152921504606846976 ≤ n ∧ n ≤ 1152921504606846976
      · obtain ⟨hB1, hB2⟩ := hB
        have HA := Lib.hid hA'
        clear hA' hA
        go_enter Try.func3, Try.ntmps3
        go_wp2_with fail
        refine (append_bad s n w HA.out).mono ?_
        rintro e x1 ⟨rfl, rfl⟩
        go_wp2_with fail
        refine (refAppend_bad s n w HA.out).mono ?_
        rintro e x2 ⟨rfl, rfl⟩
        go_wp2_with fail
        refine (signed_any s n w hs2 hB1 hB2).mono ?_
        rintro e w3 ⟨rfl, hb3⟩
        have H3 : Hid (Below w.heap.size w w3) := hb3
        clear hb3
        go_wp2_with fail
        refine (refSigned_any s n w3 hs2 hB1 hB2).mono ?_
        rintro e w4 ⟨rfl, hb4⟩
        have H4 : Hid (Below w.heap.size w w4) := (H3.out.trans (hb4.mono H3.out.size))
        clear hb4 H3
        go_wp2_with fail
        refine (size_bad n w4 HA.out).mono ?_
        rintro e x5 ⟨rfl, rfl⟩
        go_wp2_with fail
        refine (refSize_bad n w4 HA.out).mono ?_
        rintro e x6 ⟨rfl, rfl⟩
        go_wp2_with fail
        refine (awake_any w4).mono ?_
        rintro e w7 ⟨rfl, hb7⟩
        have H7 : Hid (Below w.heap.size w w7) := (H4.out.trans (hb7.mono H4.out.size))
        clear hb7 H4
        go_wp2
        go_ret
        exact ⟨rfl, H7.out⟩
      · have hB' : n < -1152921504606846976 ∨ 1152921504606846976 < n := by omega
        have HA := Lib.hid hA'
        have HB := Lib.hid hB'
        clear hA' hA hB' hB
        go_enter Try.func3, Try.ntmps3
        go_wp2_with fail
        refine (append_bad s n w HA.out).mono ?_
        rintro e x1 ⟨rfl, rfl⟩
        go_wp2_with fail
        refine (refAppend_bad s n w HA.out).mono ?_
        rintro e x2 ⟨rfl, rfl⟩
        go_wp2_with fail
        refine (signed_bad s n w HB.out).mono ?_
        rintro e x3 ⟨rfl, rfl⟩
        go_wp2_with fail
        refine (refSigned_bad s n w HB.out).mono ?_
        rintro e x4 ⟨rfl, rfl⟩
        go_wp2_with fail
        refine (size_bad n w HA.out).mono ?_
        rintro e x5 ⟨rfl, rfl⟩
        go_wp2_with fail
        refine (refSize_bad n w HA.out).mono ?_
        rintro e x6 ⟨rfl, rfl⟩
        go_wp2_with fail
        refine (awake_any w).mono ?_
        rintro e w7 ⟨rfl, hb7⟩
        have H7 : Hid (Below w.heap.size w w7) := hb7
        clear hb7
        go_wp2
        go_ret
        exact ⟨rfl, H7.out⟩
end Go.Proofs.Ytihblhdiheflaaa
