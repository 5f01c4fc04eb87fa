/- The contracts of the program's own functions of layer 2: shiftByte, feed, Sum, Update. -/
import Derived.Test.YtnkaigmonkmedaaRefA
import Derived.Outline
namespace Go.Proofs.Ytnkaigmonkmedaa
open Go.RowKit

theorem and1_u32 (x : Nat) (hx : x < 4294967296) : bits .and .u32 (x : Int) 1 = ((x % 2 : Nat) : Int) := by
  have h := (bits_nat .u32 32 (by decide) (fun n h0 h1 => IntWalk.u32_in n (by omega)) x 1 (by omega) (by decide)).1
  rw [show ((1 : Nat) : Int) = 1 from rfl] at h
  rw [h, Nat.and_one_is_mod]

set_option maxHeartbeats 400000 in
theorem shiftByte_any (r : Nat) (w : World) (hr : r < 4294967296) :
    Calls Try.prog 31 #[.int .u32 r] w fun e w' => e = .returned (.int .u32 (shN 8 r : Nat)) ∧ w = w' := by
  go_enter Try.func31, Try.ntmps31
  go_wp2
  go_loop [0, 4] (fun vr vi => ∃ (k q : Nat), k ≤ 8 ∧ vi = .int .i64 k ∧ vr = .int .u32 q ∧ q < 4294967296 ∧ Hid (shN 8 r = shN (8 - k) q)) (fun _ vi => 8 - (intOf vi).toNat)
  case atStart => exact ⟨0, r, by omega, rfl, rfl, hr, rfl⟩
  case round =>
    obtain ⟨k, q, hk, rfl, rfl, hq, H⟩ := hrel
    by_cases hlt : k < 8
    · have HS : Hid (shN (8 - k) q = shN (8 - (k + 1)) (sh1 q)) := by
        show shN (8 - k) q = _
        rw [show 8 - k = (8 - (k + 1)) + 1 by omega]; rfl
      have hq2 := sh1_lt hq
      by_cases hodd : q % 2 = 1
      · have hb : (bits .and .u32 (q : Int) 1 == 1) = true := by rw [and1_u32 q hq, hodd]; rfl
        have HX : Hid (bits .xor .u32 ((q : Int) / 2) 2197175160 = (sh1 q : Nat)) := by
          show bits .xor .u32 ((q : Int) / 2) 2197175160 = (sh1 q : Nat)
          unfold sh1; rw [if_pos hodd]
          exact bits_xor_u32 (q / 2) 2197175160 (by omega) (by omega)
        clear hodd
        go_wp2
        go_round
        case rel => exact ⟨k + 1, sh1 q, by omega, by go_num, by rw [HX.out], hq2, by show _ = _; rw [H.out, HS.out]⟩
        case measure => simp [intOf]; omega
      · have hb : (bits .and .u32 (q : Int) 1 == 1) = false := by rw [and1_u32 q hq, show q % 2 = 0 by omega]; rfl
        have HX : Hid (((q : Int) / 2) = (sh1 q : Nat)) := by
          show ((q : Int) / 2) = (sh1 q : Nat)
          unfold sh1; rw [if_neg hodd]; omega
        clear hodd
        go_wp2
        go_round
        case rel => exact ⟨k + 1, sh1 q, by omega, by go_num, by rw [HX.out], hq2, by show _ = _; rw [H.out, HS.out]⟩
        case measure => simp [intOf]; omega
    · obtain rfl : k = 8 := by omega
      go_wp2
      go_ret
      exact ⟨by rw [H.out]; rfl, rfl⟩

set_option maxHeartbeats 400000 in
theorem pfeed_any (r : Nat) (s : ByteArray) (w : World) (hr : r < 4294967296) (hs : s.size ≤ maxLen) :
    Calls Try.prog 26 #[.int .u32 r, .string s] w fun e w' => e = .returned (.int .u32 (feed r s.data.toList : Nat)) ∧ w = w' := by
  unfold maxLen at hs
  go_enter Try.func26, Try.ntmps26
  go_wp2
  go_loop [0, 8] (fun vr vi => ∃ (k q : Nat), k ≤ s.size ∧ vi = .int .i64 k ∧ vr = .int .u32 q ∧ q < 4294967296 ∧ Hid (feed r s.data.toList = feed q (s.data.toList.drop k))) (fun _ vi => s.size - (intOf vi).toNat)
  case atStart => exact ⟨0, r, by omega, rfl, rfl, hr, rfl⟩
  case round =>
    obtain ⟨k, q, hk, rfl, rfl, hq, H⟩ := hrel
    by_cases hlt : k < s.size
    · have hbb := s[k].toNat_lt
      have hik : (k : Int) < s.size := by omega
      have HS : Hid (feed q (s.data.toList.drop k) = feed (shN 8 (q ^^^ s[k].toNat)) (s.data.toList.drop (k + 1))) := by
        show feed q (s.data.toList.drop k) = _
        rw [List.drop_eq_getElem_cons (show k < s.data.toList.length by simp; omega)]; rfl
      have HX := Lib.hid (bits_xor_u32 q s[k].toNat hq (u8_lt _))
      have hq1 := xor_lt hq (u8_lt s[k])
      have HQ := Lib.hid (shN_lt 8 hq1)
      go_wp2_with fail
      rw [HX.out]
      refine (shiftByte_any _ _ hq1).mono ?_
      rintro e w' ⟨rfl, rfl⟩
      go_wp2
      go_round
      case rel => exact ⟨k + 1, _, by omega, by go_num, rfl, HQ.out, by show _ = _; rw [H.out, HS.out]⟩
      case measure => simp [intOf]; omega
    · have HS : Hid (s.data.toList.drop k = []) := List.drop_eq_nil_of_le (by simp; omega)
      go_wp2
      go_ret
      exact ⟨by rw [H.out, HS.out]; rfl, rfl⟩

set_option maxHeartbeats 400000 in
theorem update_any (c : Nat) (s : ByteArray) (w : World) (hc : c < 4294967296) (hs : s.size ≤ maxLen) :
    Calls Try.prog 14 #[.int .u32 c, .string s] w fun e w' => e = .returned (.int .u32 (updC c s.data.toList : Nat)) ∧ w = w' := by
  have hf := fun w => pfeed_any (inv c) s w (inv_lt hc) hs
  have hi := inv_bits (feed (inv c) s.data.toList) (feed_lt _ (inv_lt hc))
  have hj := inv_bits c hc
  have hE : inv (feed (inv c) s.data.toList) = updC c s.data.toList := rfl
  rw [hE] at hi
  generalize feed (inv c) s.data.toList = x at *
  generalize updC c s.data.toList = y at *
  generalize inv c = z at *
  have HF := Lib.hid hf
  have HI := Lib.hid hi
  have HJ := Lib.hid hj
  clear hf hi hE hj
  go_enter Try.func14, Try.ntmps14
  go_wp2_with fail
  rw [HJ.out]
  refine (HF.out _).mono ?_
  rintro e w' ⟨rfl, rfl⟩
  go_wp2
  go_ret
  exact ⟨ret_u32 HI.out, rfl⟩

set_option maxHeartbeats 400000 in
theorem sum_any (s : ByteArray) (w : World) (hs : s.size ≤ maxLen) :
    Calls Try.prog 12 #[.string s] w fun e w' => e = .returned (.int .u32 (sumC s.data.toList : Nat)) ∧ w = w' := by
  have hf := fun w => update_any 0 s w (by decide) hs
  rw [updC_zero] at hf
  generalize sumC s.data.toList = y at *
  have HF := Lib.hid hf
  clear hf
  go_enter Try.func12, Try.ntmps12
  go_wp2_with fail
  refine (HF.out _).mono ?_
  rintro e w' ⟨rfl, rfl⟩
  go_wp2
  go_ret
  exact ⟨rfl, rfl⟩
end Go.Proofs.Ytnkaigmonkmedaa
