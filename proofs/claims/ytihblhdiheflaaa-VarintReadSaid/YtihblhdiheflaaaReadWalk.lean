/- The walk of the law VarintRead. -/
import Derived.Test.YtihblhdiheflaaaAwake
namespace Go.Proofs.Ytihblhdiheflaaa
open Go.RowKit

set_option maxHeartbeats 1000000 in
set_option maxRecDepth 100000 in
theorem readlaw_walk (s : ByteArray) (w : World) (hs : s.size ≤ maxLen) :
    Calls Try.prog 4 #[.string s] w fun e w' => e = .returned (.bool true) ∧ Below w.heap.size w w' := by
  unfold maxLen at hs
  by_cases h100 : 100 < s.size
  · go_enter Try.func4, Try.ntmps4
    go_wp2_with fail
    refine (awake_any _).mono ?_
    rintro e w1 ⟨rfl, hb⟩
    go_wp2
    go_ret
    exact ⟨rfl, hb⟩
  · have hs2 : s.size ≤ 1000 := by omega
    have q1 := fun w => read_any s hs2 w
    have q2 := fun w => refRead_any s w
    have q3 := fun w => readSigned_any s hs2 w
    have q4 := fun w => refReadSigned_any s w
    generalize rd 1152921504606846976 0 0 s.data.toList = r1 at *
    generalize rd 2305843009213693952 0 0 s.data.toList = r2 at *
    have Q1 := Lib.hid q1
    have Q2 := Lib.hid q2
    have Q3 := Lib.hid q3
    have Q4 := Lib.hid q4
    clear q1 q2 q3 q4
    go_enter Try.func4, Try.ntmps4
    go_wp2_with fail
    refine (Q1.out w).mono ?_
    rintro e w1 ⟨rfl, hb1⟩
    have H1 : Hid (Below w.heap.size w w1) := hb1
    clear hb1
    go_wp2_with fail
    refine (Q2.out w1).mono ?_
    rintro e x2 ⟨rfl, rfl⟩
    go_wp2_with fail
    refine (Q3.out w1).mono ?_
    rintro e w3 ⟨rfl, hb3⟩
    have H3 : Hid (Below w.heap.size w w3) := (H1.out.trans (hb3.mono H1.out.size))
    clear hb3 H1
    go_wp2_with fail
    refine (Q4.out w3).mono ?_
    rintro e x4 ⟨rfl, rfl⟩
    go_wp2_with fail
    refine (awake_any w3).mono ?_
    rintro e w5 ⟨rfl, hb5⟩
    have H5 : Hid (Below w.heap.size w w5) := (H3.out.trans (hb5.mono H3.out.size))
    clear hb5 H3
    go_wp2
    go_ret
    exact ⟨rfl, H5.out⟩
end Go.Proofs.Ytihblhdiheflaaa
