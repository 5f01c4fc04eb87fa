/- The walk of the law VarintBack. -/
import Derived.Test.YtihblhdiheflaaaBackMath
namespace Go.Proofs.Ytihblhdiheflaaa
open Go.RowKit

set_option maxHeartbeats 2000000 in
set_option maxRecDepth 100000 in
theorem back_walk (n : Int) (rest : ByteArray) (w : World) (hs : rest.size ≤ maxLen) :
    Calls Try.prog 6 #[.int .i64 n, .string rest] w fun e w' => e = .returned (.bool true) ∧ Below w.heap.size w w' := by
  unfold maxLen at hs
  by_cases h1 : n < -1152921504606846976
  · go_enter Try.func6, Try.ntmps6
    go_wp2_with fail
    refine (awake_any _).mono ?_
    rintro e w1 ⟨rfl, hb⟩
    go_wp2
    go_ret
    exact ⟨rfl, hb⟩
  · by_cases h2 : 1152921504606846976 < n
    · go_enter Try.func6, Try.ntmps6
      go_wp2_with fail
      refine (awake_any _).mono ?_
      rintro e w1 ⟨rfl, hb⟩
      go_wp2
      go_ret
      exact ⟨rfl, hb⟩
    · by_cases h3 : 50 < rest.size
      · go_enter Try.func6, Try.ntmps6
        go_wp2_with fail
        refine (awake_any _).mono ?_
        rintro e w1 ⟨rfl, hb⟩
        go_wp2
        go_ret
        exact ⟨rfl, hb⟩
      · have q1 := fun w => signed_nil n w (by omega) (by omega)
        have q2 := fun w => readSigned_back n rest w (by omega) (by omega) (by omega)
        have hsz := mk_size (Lib.uvarint (fold n))
        have hl9 := uv_len9 (m := fold n) (by have := fold_le (n := n) (by omega) (by omega); omega)
        generalize (⟨(Lib.uvarint (fold n)).toArray⟩ : ByteArray) = t at *
        rw [← hsz] at q2 hl9
        have Q1 := Lib.hid q1
        have Q2 := Lib.hid q2
        clear q1 q2 hsz
        by_cases hneg : n < 0
        · go_enter Try.func6, Try.ntmps6
          go_wp2_with fail
          refine (Q1.out _).mono ?_
          rintro e w1 ⟨rfl, hb1⟩
          have H1 := Lib.hid hb1
          clear hb1
          go_wp2_with fail
          refine (Q2.out _).mono ?_
          rintro e w2 ⟨rfl, hb2⟩
          have H2 := Lib.hid (H1.out.trans (hb2.mono H1.out.size))
          clear hb2
          go_wp2_with fail
          refine (awake_any _).mono ?_
          rintro e w3 ⟨rfl, hb3⟩
          have H3 := Lib.hid (H2.out.trans (hb3.mono H2.out.size))
          clear hb3
          go_wp2
          go_ret
          exact ⟨rfl, H3.out⟩
        · obtain ⟨m, rfl⟩ := Int.eq_ofNat_of_zero_le (show 0 ≤ n by omega)
          have hm : m ≤ 1152921504606846976 := by omega
          have p1 := fun w => append_any rest m w (by omega) hm
          have p3 := fun w => read_back m rest w hm (by omega)
          have p4 := fun w => size_any m w hm
          have hu : (rest ++ ⟨(Lib.uvarint m).toArray⟩ : ByteArray).size = rest.size + (Lib.uvarint m).length := by rw [ByteArray.size_append, mk_size (Lib.uvarint m)]
          have hm9 := uv_len9 (m := m) (by omega)
          have e2 := extract_right rest ⟨(Lib.uvarint m).toArray⟩
          have p2 := fun w => hasPrefix_append rest ⟨(Lib.uvarint m).toArray⟩ w
          rw [← e2] at p3
          clear e2
          generalize (rest ++ ⟨(Lib.uvarint m).toArray⟩ : ByteArray) = u at *
          generalize (Lib.uvarint m).length = L at *
          have hu1 : rest.size ≤ u.size := by omega
          have hu2 : u.size ≤ rest.size + 9 := by omega
          have hd : ((L : Int) == (u.size : Int) - rest.size) = true := beq_iff_eq.2 (by omega)
          have P1 := Lib.hid p1
          have P2 := Lib.hid p2
          have P3 := Lib.hid p3
          have P4 := Lib.hid p4
          clear p1 p2 p3 p4 hu
          go_enter Try.func6, Try.ntmps6
          go_wp2_with fail
          refine (Q1.out _).mono ?_
          rintro e w1 ⟨rfl, hb1⟩
          have H1 := Lib.hid hb1
          clear hb1
          go_wp2_with fail
          refine (Q2.out _).mono ?_
          rintro e w2 ⟨rfl, hb2⟩
          have H2 := Lib.hid (H1.out.trans (hb2.mono H1.out.size))
          clear hb2
          go_wp2_with fail
          refine (P1.out _).mono ?_
          rintro e w3 ⟨rfl, hb3⟩
          have H3 := Lib.hid (H2.out.trans (hb3.mono H2.out.size))
          clear hb3
          go_wp2_with fail
          refine (P2.out _).mono ?_
          rintro e w3' ⟨rfl, rfl⟩
          go_wp2_with fail
          refine (P3.out _).mono ?_
          rintro e w4 ⟨rfl, hb4⟩
          have H4 := Lib.hid (H3.out.trans (hb4.mono H3.out.size))
          clear hb4
          go_wp2_with fail
          refine (P4.out _).mono ?_
          rintro e w5 ⟨rfl, hb5⟩
          have H5 := Lib.hid (H4.out.trans (hb5.mono H4.out.size))
          clear hb5
          go_wp2_with fail
          refine (awake_any _).mono ?_
          rintro e w6 ⟨rfl, hb6⟩
          have H6 := Lib.hid (H5.out.trans (hb6.mono H5.out.size))
          clear hb6
          go_wp2
          go_ret
          exact ⟨rfl, H6.out⟩
end Go.Proofs.Ytihblhdiheflaaa
