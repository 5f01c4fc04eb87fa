/- The walk of the law Crc32cBurst. -/
import Derived.Test.YtnkaigmonkmedaaWalk2
namespace Go.Proofs.Ytnkaigmonkmedaa
open Go.RowKit

/-- burst hands back false; or a string of the same length that leaves another register. -/
theorem burst_alt (s : ByteArray) (mask bit : Nat) (hm : mask < 4294967296) (hb : bit < 3000) :
    (∃ t : ByteArray, ∀ w, Calls Try.prog 24 #[.string s, .int .u32 mask, .int .i64 bit] w fun e w' => e = .returned (.tuple #[.string t, .bool false]) ∧ Below w.heap.size w w') ∨
    (∃ t : ByteArray, t.size = s.size ∧ feed ones t.data.toList ≠ feed ones s.data.toList ∧ ∀ w, Calls Try.prog 24 #[.string s, .int .u32 mask, .int .i64 bit] w fun e w' => e = .returned (.tuple #[.string t, .bool true]) ∧ Below w.heap.size w w') := by
  have h := fun w => burst_any s mask bit hm hb w
  by_cases hr : ∀ j, j < 32 → mask / 2 ^ j % 2 = 1 → (bit + j) / 8 < s.data.toList.length
  · rw [burstOut_ok hr] at h
    by_cases h0 : mask = 0
    · left
      rw [show (!decide (mask = 0)) = false by simp [h0]] at h
      exact ⟨_, h⟩
    · right
      rw [show (!decide (mask = 0)) = true by simp [h0]] at h
      refine ⟨_, ?_, ?_, h⟩
      · rw [mk_size, burstC_length, ba_size]
      · rw [mk_data]
        exact burst_differs s.data.toList ones mask bit h0 hm hr
  · left
    have hout : burstOut s.data.toList mask bit = .tuple #[.string ⟨#[]⟩, .bool false] := if_neg hr
    rw [hout] at h
    exact ⟨_, h⟩
theorem sum_ne {l m : List UInt8} (h : feed ones l ≠ feed ones m) : ((sumC l : Nat) : Int) ≠ ((sumC m : Nat) : Int) := by
  intro e
  apply h
  have e2 : sumC l = sumC m := Int.ofNat.inj e
  have e3 := congrArg inv e2
  unfold sumC at e3
  rw [inv_inv, inv_inv] at e3
  exact e3

set_option maxHeartbeats 1000000 in
set_option maxRecDepth 100000 in
theorem burst_walk (s : ByteArray) (mask bit : Nat) (w : World) (hs : s.size ≤ maxLen) (hmk : mask < 4294967296) (hbt : bit < 65536) :
    Calls Try.prog 8 #[.string s, .int .u32 mask, .int .u16 bit] w fun e w' => e = .returned (.bool true) ∧ Below w.heap.size w w' := by
  have hm : maxLen = 9223372036854775807 := by unfold maxLen; rfl
  rw [hm] at hs
  by_cases h3 : 300 < s.size
  · go_enter Try.func8, Try.ntmps8
    go_wp2_with fail
    refine (awake_any _).mono ?_
    rintro e w1 ⟨rfl, hb1⟩
    have H1 : Hid (Below w.heap.size w w1) := hb1
    clear hb1
    go_wp2
    go_ret
    exact ⟨rfl, H1.out⟩
  · have e1 : ((bit % 2400 : Nat) : Int) = (bit : Int) % 2400 := by omega
    have e2 : ((bit % 2432 : Nat) : Int) = (bit : Int) % 2432 := by omega
    have p1 := burst_alt s mask (bit % 2400) hmk (by omega)
    have p2 := burst_alt (sealS s) mask (bit % 2432) hmk (by omega)
    have Q21 := Lib.hid fun w => seal_S s (by omega) w
    have Qs := Lib.hid fun w => sum_any s w (by omega)
    rw [e1] at p1
    rw [e2] at p2
    rw [sealS_size, sealS_data, feed_seal] at p2
    generalize sealS s = z at *
    clear e1 e2
    rcases p2 with ⟨t2, p2⟩ | ⟨t2, hz2, hf2, p2⟩
    · have P2 := Lib.hid p2
      clear p2
      rcases p1 with ⟨t1, p1⟩ | ⟨t1, hz1, hf1, p1⟩
      · have P1 := Lib.hid p1
        clear p1 Qs
        go_enter Try.func8, Try.ntmps8
        go_wp2_with fail
        refine (P1.out _).mono ?_
        rintro e w1 ⟨rfl, hb1⟩
        have H1 : Hid (Below w.heap.size w w1) := hb1
        clear hb1
        go_wp2_with fail
        refine (Q21.out _).mono ?_
        rintro e w2 ⟨rfl, hb2⟩
        have H2 : Hid (Below w.heap.size w w2) := (H1.out.trans (hb2.mono H1.out.size))
        clear hb2 H1
        go_wp2_with fail
        refine (P2.out _).mono ?_
        rintro e w3 ⟨rfl, hb3⟩
        have H3 : Hid (Below w.heap.size w w3) := (H2.out.trans (hb3.mono H2.out.size))
        clear hb3 H2
        go_wp2_with fail
        refine (awake_any _).mono ?_
        rintro e w4 ⟨rfl, hb4⟩
        have H4 : Hid (Below w.heap.size w w4) := (H3.out.trans (hb4.mono H3.out.size))
        clear hb4 H3
        go_wp2
        go_ret
        exact ⟨rfl, H4.out⟩
      · have P1 := Lib.hid p1
        have Qt := Lib.hid fun w => sum_any t1 w (by omega)
        have hne : ((sumC t1.data.toList : Int) == (sumC s.data.toList : Int)) = false := beq_eq_false_iff_ne.2 (sum_ne hf1)
        clear p1 hf1
        generalize sumC t1.data.toList = x at *
        generalize sumC s.data.toList = y at *
        go_enter Try.func8, Try.ntmps8
        go_wp2_with fail
        refine (P1.out _).mono ?_
        rintro e w1 ⟨rfl, hb1⟩
        have H1 : Hid (Below w.heap.size w w1) := hb1
        clear hb1
        go_wp2_with fail
        refine (Qt.out _).mono ?_
        rintro e x2 ⟨rfl, rfl⟩
        go_wp2_with fail
        refine (Qs.out _).mono ?_
        rintro e x3 ⟨rfl, rfl⟩
        go_wp2_with fail
        refine (Q21.out _).mono ?_
        rintro e w4 ⟨rfl, hb4⟩
        have H4 : Hid (Below w.heap.size w w4) := (H1.out.trans (hb4.mono H1.out.size))
        clear hb4 H1
        go_wp2_with fail
        refine (P2.out _).mono ?_
        rintro e w5 ⟨rfl, hb5⟩
        have H5 : Hid (Below w.heap.size w w5) := (H4.out.trans (hb5.mono H4.out.size))
        clear hb5 H4
        go_wp2_with fail
        refine (awake_any _).mono ?_
        rintro e w6 ⟨rfl, hb6⟩
        have H6 : Hid (Below w.heap.size w w6) := (H5.out.trans (hb6.mono H5.out.size))
        clear hb6 H5
        go_wp2
        go_ret
        exact ⟨rfl, H6.out⟩
    · have P2 := Lib.hid p2
      have q19 := fun w => open_any t2 (by omega) w
      rw [openOut_bad t2 (by omega) hf2] at q19
      have Q19 := Lib.hid q19
      clear p2 q19
      rcases p1 with ⟨t1, p1⟩ | ⟨t1, hz1, hf1, p1⟩
      · have P1 := Lib.hid p1
        clear p1 Qs
        go_enter Try.func8, Try.ntmps8
        go_wp2_with fail
        refine (P1.out _).mono ?_
        rintro e w1 ⟨rfl, hb1⟩
        have H1 : Hid (Below w.heap.size w w1) := hb1
        clear hb1
        go_wp2_with fail
        refine (Q21.out _).mono ?_
        rintro e w2 ⟨rfl, hb2⟩
        have H2 : Hid (Below w.heap.size w w2) := (H1.out.trans (hb2.mono H1.out.size))
        clear hb2 H1
        go_wp2_with fail
        refine (P2.out _).mono ?_
        rintro e w3 ⟨rfl, hb3⟩
        have H3 : Hid (Below w.heap.size w w3) := (H2.out.trans (hb3.mono H2.out.size))
        clear hb3 H2
        go_wp2_with fail
        refine (Q19.out _).mono ?_
        rintro e w4 ⟨rfl, hb4⟩
        have H4 : Hid (Below w.heap.size w w4) := (H3.out.trans (hb4.mono H3.out.size))
        clear hb4 H3
        go_wp2_with fail
        refine (awake_any _).mono ?_
        rintro e w5 ⟨rfl, hb5⟩
        have H5 : Hid (Below w.heap.size w w5) := (H4.out.trans (hb5.mono H4.out.size))
        clear hb5 H4
        go_wp2
        go_ret
        exact ⟨rfl, H5.out⟩
      · have P1 := Lib.hid p1
        have Qt := Lib.hid fun w => sum_any t1 w (by omega)
        have hne : ((sumC t1.data.toList : Int) == (sumC s.data.toList : Int)) = false := beq_eq_false_iff_ne.2 (sum_ne hf1)
        clear p1 hf1
        generalize sumC t1.data.toList = x at *
        generalize sumC s.data.toList = y at *
        go_enter Try.func8, Try.ntmps8
        go_wp2_with fail
        refine (P1.out _).mono ?_
        rintro e w1 ⟨rfl, hb1⟩
        have H1 : Hid (Below w.heap.size w w1) := hb1
        clear hb1
        go_wp2_with fail
        refine (Qt.out _).mono ?_
        rintro e x2 ⟨rfl, rfl⟩
        go_wp2_with fail
        refine (Qs.out _).mono ?_
        rintro e x3 ⟨rfl, rfl⟩
        go_wp2_with fail
        refine (Q21.out _).mono ?_
        rintro e w4 ⟨rfl, hb4⟩
        have H4 : Hid (Below w.heap.size w w4) := (H1.out.trans (hb4.mono H1.out.size))
        clear hb4 H1
        go_wp2_with fail
        refine (P2.out _).mono ?_
        rintro e w5 ⟨rfl, hb5⟩
        have H5 : Hid (Below w.heap.size w w5) := (H4.out.trans (hb5.mono H4.out.size))
        clear hb5 H4
        go_wp2_with fail
        refine (Q19.out _).mono ?_
        rintro e w6 ⟨rfl, hb6⟩
        have H6 : Hid (Below w.heap.size w w6) := (H5.out.trans (hb6.mono H5.out.size))
        clear hb6 H5
        go_wp2_with fail
        refine (awake_any _).mono ?_
        rintro e w7 ⟨rfl, hb7⟩
        have H7 : Hid (Below w.heap.size w w7) := (H6.out.trans (hb7.mono H6.out.size))
        clear hb7 H6
        go_wp2
        go_ret
        exact ⟨rfl, H7.out⟩
end Go.Proofs.Ytnkaigmonkmedaa
