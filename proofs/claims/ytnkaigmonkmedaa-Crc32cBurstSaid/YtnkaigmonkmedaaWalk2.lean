/- The walks of the laws Crc32cLinear and Crc32cBurst: each call by its contract. -/
import Derived.Test.YtnkaigmonkmedaaRefD
import Derived.Test.YtnkaigmonkmedaaStr
namespace Go.Proofs.Ytnkaigmonkmedaa
open Go.RowKit

theorem mk_data (l : List UInt8) : (⟨l.toArray⟩ : ByteArray).data.toList = l := by simp
set_option maxHeartbeats 1000000 in
set_option maxRecDepth 100000 in
theorem linear_walk (a b c : ByteArray) (w : World) (ha : a.size ≤ maxLen) (hb : b.size ≤ maxLen) (hc : c.size ≤ maxLen) :
    Calls Try.prog 7 #[.string a, .string b, .string c] w fun e w' => e = .returned (.bool true) ∧ Below w.heap.size w w' := by
  have hm : maxLen = 9223372036854775807 := by unfold maxLen; rfl
  by_cases h3 : 300 < a.size
  · rw [hm] at ha hb hc
    go_enter Try.func7, Try.ntmps7
    go_wp2_with fail
    refine (awake_any _).mono ?_
    rintro e w1 ⟨rfl, hb1⟩
    have H1 : Hid (Below w.heap.size w w1) := hb1
    clear hb1
    go_wp2
    go_ret
    exact ⟨rfl, H1.out⟩
  · by_cases hbn : b.size = a.size
    · by_cases hcn : c.size = a.size
      · have Qx := Lib.hid fun w => xor_any a b c (by omega) hbn hcn w
        have hlen : (xorTo a.data.toList b.data.toList c.data.toList a.size).length = a.size := by rw [xorTo_length, ba_size]
        have Qa := Lib.hid fun w => sum_any a w ha
        have Qb := Lib.hid fun w => sum_any b w hb
        have Qc := Lib.hid fun w => sum_any c w hc
        have qs := fun w => sum_any ⟨(xorTo a.data.toList b.data.toList c.data.toList a.size).toArray⟩ w (by rw [mk_size, hlen]; exact ha)
        have hx : sumC (xorTo a.data.toList b.data.toList c.data.toList a.size) = sumC a.data.toList ^^^ sumC b.data.toList ^^^ sumC c.data.toList := by
          rw [xorTo_eq _ _ _ _ (by rw [ba_size]; omega) (by rw [ba_size, ba_size, hbn]) (by rw [ba_size, ba_size, hcn])]
          rw [List.drop_eq_nil_of_le (by rw [ba_size]; omega), List.append_nil, List.take_of_length_le (by rw [ba_size]; omega), List.take_of_length_le (by rw [ba_size]; omega), List.take_of_length_le (by rw [ba_size]; omega)]
          exact sumC_xor3 _ _ _ (by rw [ba_size, ba_size, hbn]) (by rw [ba_size, ba_size, hcn])
        rw [mk_data, hx] at qs
        have hla := sumC_lt a.data.toList
        have hlb := sumC_lt b.data.toList
        have hlc := sumC_lt c.data.toList
        have Qs := Lib.hid qs
        clear qs hx hlen
        generalize (⟨(xorTo a.data.toList b.data.toList c.data.toList a.size).toArray⟩ : ByteArray) = t at *
        generalize sumC a.data.toList = x at *
        generalize sumC b.data.toList = y at *
        generalize sumC c.data.toList = z at *
        have HX1 := bits_xor_u32 x y hla hlb
        have HX2 := bits_xor_u32 (x ^^^ y) z (xor_lt hla hlb) hlc
        generalize x ^^^ y = xy at *
        generalize xy ^^^ z = xyz at *
        have hcb : c.size = b.size := by omega
        rw [hm] at ha hb hc
        have hq1 : ((b.size : Int) != a.size) = false := by rw [hbn]; simp
        have hq2 : ((c.size : Int) != a.size) = false := by rw [hcn]; simp
        clear hbn hcn hcb
        go_enter Try.func7, Try.ntmps7
        go_wp2_with fail
        refine (Qx.out _).mono ?_
        rintro e w1 ⟨rfl, hb1⟩
        have H1 : Hid (Below w.heap.size w w1) := hb1
        clear hb1
        go_wp2_with fail
        refine (Qs.out _).mono ?_
        rintro e x2 ⟨rfl, rfl⟩
        go_wp2_with fail
        refine (Qa.out _).mono ?_
        rintro e x3 ⟨rfl, rfl⟩
        go_wp2_with fail
        refine (Qb.out _).mono ?_
        rintro e x4 ⟨rfl, rfl⟩
        go_wp2_with fail
        refine (Qc.out _).mono ?_
        rintro e x5 ⟨rfl, rfl⟩
        go_wp2_with fail
        refine (awake_any _).mono ?_
        rintro e w6 ⟨rfl, hb6⟩
        have H6 : Hid (Below w.heap.size w w6) := (H1.out.trans (hb6.mono H1.out.size))
        clear hb6 H1
        go_wp2
        go_ret
        exact ⟨rfl, H6.out⟩
      · have hq1 : ((b.size : Int) != a.size) = false := by rw [hbn]; simp
        have hq2 : ((c.size : Int) != a.size) = true := bne_iff_ne.2 (by omega)
        rw [hm] at ha hb hc
        clear hbn hcn
        go_enter Try.func7, Try.ntmps7
        go_wp2_with fail
        refine (awake_any _).mono ?_
        rintro e w1 ⟨rfl, hb1⟩
        have H1 : Hid (Below w.heap.size w w1) := hb1
        clear hb1
        go_wp2
        go_ret
        exact ⟨rfl, H1.out⟩
    · have hq1 : ((b.size : Int) != a.size) = true := bne_iff_ne.2 (by omega)
      rw [hm] at ha hb hc
      clear hbn
      go_enter Try.func7, Try.ntmps7
      go_wp2_with fail
      refine (awake_any _).mono ?_
      rintro e w1 ⟨rfl, hb1⟩
      have H1 : Hid (Below w.heap.size w w1) := hb1
      clear hb1
      go_wp2
      go_ret
      exact ⟨rfl, H1.out⟩
end Go.Proofs.Ytnkaigmonkmedaa
