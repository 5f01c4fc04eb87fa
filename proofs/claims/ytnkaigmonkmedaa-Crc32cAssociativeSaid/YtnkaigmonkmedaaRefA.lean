/- The contracts of the reference of layer 2: shift, feed, Sum, Update. -/
import Derived.Test.YtnkaigmonkmedaaProg
import Derived.Test.YtnkaigmonkmedaaSpec
import Derived.WalkKit
import Derived.WalkSpells
import Derived.WalkLawsBesides
import Derived.Lib.Hide
import Derived.Lib.VarintMem
import Derived.IntWalk
import Derived.KernelRfl
namespace Go.Proofs.Ytnkaigmonkmedaa
open Go.RowKit

theorem ret_u32 {a b : Int} (h : a = b) : Ending.returned (.int .u32 a) = .returned (.int .u32 b) := by rw [h]
theorem bits_xor_u32 (a b : Nat) (ha : a < 4294967296) (hb : b < 4294967296) : bits .xor .u32 (a : Int) (b : Int) = ((a ^^^ b : Nat) : Int) := by
  have ha' : a % 2 ^ 32 = a := Nat.mod_eq_of_lt (by omega)
  have hb' : b % 2 ^ 32 = b := Nat.mod_eq_of_lt (by omega)
  have hx := xor_lt ha hb
  show IntKind.u32.wrap (((BitVec.ofInt 32 (a : Int) ^^^ BitVec.ofInt 32 (b : Int)).toNat : Nat) : Int) = _
  rw [BitVec.toNat_xor, BitVec.ofInt_natCast, BitVec.ofInt_natCast, BitVec.toNat_ofNat, BitVec.toNat_ofNat, ha', hb']
  exact IntWalk.u32_in ((a ^^^ b : Nat) : Int) (by omega)

set_option maxHeartbeats 400000 in
theorem shift_any (r : Nat) (w : World) (hr : r < 4294967296) :
    Calls Try.prog 28 #[.int .u32 r] w fun e w' => e = .returned (.int .u32 (shN 8 r : Nat)) ∧ w = w' := by
  go_enter Try.func28, Try.ntmps28
  go_wp2
  go_loop [0, 3] (fun vr vi => ∃ (k q : Nat), k ≤ 8 ∧ vi = .int .i64 k ∧ vr = .int .u32 q ∧ q < 4294967296 ∧ Hid (shN 8 r = shN (8 - k) q)) (fun _ vi => 8 - (intOf vi).toNat)
  case atStart => exact ⟨0, r, by omega, rfl, rfl, hr, rfl⟩
  case round =>
    obtain ⟨k, q, hk, rfl, rfl, hq, H⟩ := hrel
    by_cases hlt : k < 8
    · have HS : Hid (shN (8 - k) q = shN (8 - (k + 1)) (sh1 q)) := by
        show shN (8 - k) q = _
        rw [show 8 - k = (8 - (k + 1)) + 1 by omega]; rfl
      have hq2 := sh1_lt hq
      by_cases hodd : q % 2 = 1
      · have hb : ((q : Int) % 2 == 1) = true := beq_iff_eq.2 (by omega)
        have HX : Hid (bits .xor .u32 ((q : Int) / 2) 2197175160 = (sh1 q : Nat)) := by
          show bits .xor .u32 ((q : Int) / 2) 2197175160 = (sh1 q : Nat)
          unfold sh1; rw [if_pos hodd]
          exact bits_xor_u32 (q / 2) 2197175160 (by omega) (by omega)
        clear hodd
        go_wp2
        go_round
        case rel => exact ⟨k + 1, sh1 q, by omega, by go_num, by rw [HX.out], hq2, by show _ = _; rw [H.out, HS.out]⟩
        case measure => simp [intOf]; omega
      · have hb : ((q : Int) % 2 == 1) = false := beq_eq_false_iff_ne.2 (by omega)
        have HX : Hid (((q : Int) / 2) = (sh1 q : Nat)) := by
          show ((q : Int) / 2) = (sh1 q : Nat)
          unfold sh1; rw [if_neg hodd]; omega
        clear hodd
        go_wp2
        go_round
        case rel => exact ⟨k + 1, sh1 q, by omega, by go_num, by rw [HX.out], hq2, by show _ = _; rw [H.out, HS.out]⟩
        case measure => simp [intOf]; omega
    · obtain rfl : k = 8 := by omega
      go_wp2
      go_ret
      exact ⟨by rw [H.out]; rfl, rfl⟩

set_option maxHeartbeats 400000 in
theorem feed_any (r : Nat) (s : ByteArray) (w : World) (hr : r < 4294967296) (hs : s.size ≤ maxLen) :
    Calls Try.prog 25 #[.int .u32 r, .string s] w fun e w' => e = .returned (.int .u32 (feed r s.data.toList : Nat)) ∧ w = w' := by
  unfold maxLen at hs
  go_enter Try.func25, Try.ntmps25
  go_wp2
  go_loop [0, 5] (fun vr vi => ∃ (k q : Nat), k ≤ s.size ∧ vi = .int .i64 k ∧ vr = .int .u32 q ∧ q < 4294967296 ∧ Hid (feed r s.data.toList = feed q (s.data.toList.drop k))) (fun _ vi => s.size - (intOf vi).toNat)
  case atStart => exact ⟨0, r, by omega, rfl, rfl, hr, rfl⟩
  case round =>
    obtain ⟨k, q, hk, rfl, rfl, hq, H⟩ := hrel
    by_cases hlt : k < s.size
    · have hbb := s[k].toNat_lt
      have HS : Hid (feed q (s.data.toList.drop k) = feed (shN 8 (q ^^^ s[k].toNat)) (s.data.toList.drop (k + 1))) := by
        show feed q (s.data.toList.drop k) = _
        rw [List.drop_eq_getElem_cons (show k < s.data.toList.length by simp; omega)]; rfl
      have HX := Lib.hid (bits_xor_u32 q s[k].toNat hq (u8_lt _))
      have hq1 := xor_lt hq (u8_lt s[k])
      have HQ := Lib.hid (shN_lt 8 hq1)
      go_wp2_with fail
      rw [HX.out]
      refine (shift_any _ _ hq1).mono ?_
      rintro e w' ⟨rfl, rfl⟩
      go_wp2
      go_round
      case rel => exact ⟨k + 1, _, by omega, by go_num, rfl, HQ.out, by show _ = _; rw [H.out, HS.out]⟩
      case measure => simp [intOf]; omega
    · have HS : Hid (s.data.toList.drop k = []) := List.drop_eq_nil_of_le (by simp; omega)
      go_wp2
      go_ret
      exact ⟨by rw [H.out, HS.out]; rfl, rfl⟩

theorem inv_bits (x : Nat) (hx : x < 4294967296) : bits .xor .u32 IntKind.u32.max (x : Int) = ((inv x : Nat) : Int) := by
  show bits .xor .u32 ((4294967295 : Nat) : Int) (x : Int) = _
  rw [bits_xor_u32 _ _ (by omega) hx, Nat.xor_comm]
  rfl

set_option maxHeartbeats 400000 in
theorem refSum_any (s : ByteArray) (w : World) (hs : s.size ≤ maxLen) :
    Calls Try.prog 13 #[.string s] w fun e w' => e = .returned (.int .u32 (sumC s.data.toList : Nat)) ∧ w = w' := by
  have hf := fun w => feed_any 4294967295 s w (by omega) hs
  have hi := inv_bits (feed ones s.data.toList) (feed_lt _ ones_lt)
  have hE : inv (feed ones s.data.toList) = sumC s.data.toList := rfl
  rw [hE] at hi
  have hO : ones = 4294967295 := rfl
  rw [hO] at hi hE
  generalize feed 4294967295 s.data.toList = x at *
  generalize sumC s.data.toList = y at *
  have HF := Lib.hid hf
  have HI := Lib.hid hi
  clear hf hi hE hO
  go_enter Try.func13, Try.ntmps13
  go_wp2_with fail
  refine (HF.out _).mono ?_
  rintro e w' ⟨rfl, rfl⟩
  go_wp2
  go_ret
  exact ⟨ret_u32 HI.out, rfl⟩

set_option maxHeartbeats 400000 in
theorem refUpdate_any (c : Nat) (s : ByteArray) (w : World) (hc : c < 4294967296) (hs : s.size ≤ maxLen) :
    Calls Try.prog 15 #[.int .u32 c, .string s] w fun e w' => e = .returned (.int .u32 (updC c s.data.toList : Nat)) ∧ w = w' := by
  have hf := fun w => feed_any (inv c) s w (inv_lt hc) hs
  have hi := inv_bits (feed (inv c) s.data.toList) (feed_lt _ (inv_lt hc))
  have hj := inv_bits c hc
  have hE : inv (feed (inv c) s.data.toList) = updC c s.data.toList := rfl
  rw [hE] at hi
  generalize feed (inv c) s.data.toList = x at *
  generalize updC c s.data.toList = y at *
  generalize inv c = z at *
  have HF := Lib.hid hf
  have HI := Lib.hid hi
  have HJ := Lib.hid hj
  clear hf hi hE hj
  go_enter Try.func15, Try.ntmps15
  go_wp2_with fail
  rw [HJ.out]
  refine (HF.out _).mono ?_
  rintro e w' ⟨rfl, rfl⟩
  go_wp2
  go_ret
  exact ⟨ret_u32 HI.out, rfl⟩
end Go.Proofs.Ytnkaigmonkmedaa
