/- Layer 5: equality, order and hashes of strings; lists that are equal, great. -/
import Derived.Laws.StructEq
import Derived.Deep.QuietTactic
import Derived.BigQuiet
import Derived.Test.YtbphhdmnfepbnaaLC
set_option linter.unusedVariables false
set_option linter.unusedSimpArgs false
namespace Go.Proofs.Ytbphhdmnfepbnaa.Lab
open Go.RowKit
/-- Text, cmp.Compare: how two strings compare. -/
def cmpS (a b : ByteArray) : Int := if Op.bytesLess a.toList b.toList = true then -1 else if (a.toList == b.toList) = true then 0 else 1
theorem cmpS_lt {a b : ByteArray} (h : Op.bytesLess a.toList b.toList = true) : cmpS a b = -1 := if_pos h
theorem cmpS_eq {a b : ByteArray} (h : Op.bytesLess a.toList b.toList = false) (h2 : (a.toList == b.toList) = true) : cmpS a b = 0 := by unfold cmpS; rw [if_neg (by simp [h]), if_pos h2]
theorem cmpS_gt {a b : ByteArray} (h : Op.bytesLess a.toList b.toList = false) (h2 : (a.toList == b.toList) = false) : cmpS a b = 1 := by unfold cmpS; rw [if_neg (by simp [h]), if_neg (by simp [h2])]
theorem nan_any (a : ByteArray) (w : World) : Calls Try.prog 68 #[.string a] w fun e w' => e = .returned (.bool false) ∧ w = w' := by
  go_enter Try.func68, Try.ntmps68
  go_wp2
  go_ret
  exact ⟨ret_bool (by simp), rfl⟩
set_option maxHeartbeats 1000000 in
theorem text_any (a b : ByteArray) (w : World) : Calls Try.prog 54 #[.string a, .string b] w fun e w' => e = .returned (.int .i64 (cmpS a b)) ∧ w = w' := by
  cases h1 : Op.bytesLess a.toList b.toList with
  | true =>
    have HE := Lib.hid (cmpS_lt h1)
    go_enter Try.func54, Try.ntmps54
    go_wp2
    go_ret
    rw [HE.out]
    exact ⟨rfl, rfl⟩
  | false =>
    cases h2 : (a.toList == b.toList) with
    | true =>
      have HE := Lib.hid (cmpS_eq h1 h2)
      go_enter Try.func54, Try.ntmps54
      go_wp2
      go_ret
      rw [HE.out]
      exact ⟨rfl, rfl⟩
    | false =>
      have HE := Lib.hid (cmpS_gt h1 h2)
      go_enter Try.func54, Try.ntmps54
      go_wp2
      go_ret
      rw [HE.out]
      exact ⟨rfl, rfl⟩
set_option maxHeartbeats 1000000 in
theorem cmpstr_any (a b : ByteArray) (w : World) : Calls Try.prog 53 #[.string a, .string b] w fun e w' => e = .returned (.int .i64 (cmpS a b)) ∧ w = w' := by
  cases h1 : Op.bytesLess a.toList b.toList with
  | true =>
    have HE := Lib.hid (cmpS_lt h1)
    go_enter Try.func53, Try.ntmps53
    go_wp2_with (go_at_call 68; (with_reducible refine (nan_any _ _).mono ?_); rintro e w' ⟨rfl, rfl⟩)
    go_ret
    rw [HE.out]
    exact ⟨rfl, rfl⟩
  | false =>
    cases h2 : (a.toList == b.toList) with
    | true =>
      have HE := Lib.hid (cmpS_eq h1 h2)
      go_enter Try.func53, Try.ntmps53
      go_wp2_with (go_at_call 68; (with_reducible refine (nan_any _ _).mono ?_); rintro e w' ⟨rfl, rfl⟩)
      go_ret
      rw [HE.out]
      exact ⟨rfl, rfl⟩
    | false =>
      have HE := Lib.hid (cmpS_gt h1 h2)
      go_enter Try.func53, Try.ntmps53
      go_wp2_with (go_at_call 68; (with_reducible refine (nan_any _ _).mono ?_); rintro e w' ⟨rfl, rfl⟩)
      go_ret
      rw [HE.out]
      exact ⟨rfl, rfl⟩

/-- FNV-1a of 32 bits. -/
def fnv (h : Nat) (c : UInt8) : Nat := (h ^^^ c.toNat) * 16777619 % 4294967296
def off32 : Nat := 2166136261
def hashL (l : List UInt8) : Nat := l.foldl fnv off32
theorem fnv_lt (h : Nat) (c : UInt8) : fnv h c < 4294967296 := Nat.mod_lt _ (by decide)
theorem foldl_snoc {α β : Type} (f : β → α → β) (b : β) (l : List α) (c : α) : (l ++ [c]).foldl f b = f (l.foldl f b) c := by
  rw [List.foldl_append, List.foldl_cons, List.foldl_nil]
theorem hashL_snoc (l : List UInt8) (c : UInt8) : hashL (l ++ [c]) = fnv (hashL l) c := foldl_snoc fnv off32 l c
theorem hashL_nil : hashL [] = off32 := rfl
theorem off32_lt : off32 < 4294967296 := by unfold off32; omega
theorem foldl_lt : ∀ (l : List UInt8) (h : Nat), h < 4294967296 → l.foldl fnv h < 4294967296
  | [], _, hh => hh
  | c :: r, h, _ => foldl_lt r (fnv h c) (fnv_lt h c)
theorem hashL_lt (l : List UInt8) : hashL l < 4294967296 := foldl_lt l off32 off32_lt
theorem bits_xor_u32 (a b : Nat) (ha : a < 4294967296) (hb : b < 4294967296) : bits .xor .u32 (a : Int) (b : Int) = ((a ^^^ b : Nat) : Int) := by
  have ha' : a % 2 ^ 32 = a := Nat.mod_eq_of_lt (by omega)
  have hb' : b % 2 ^ 32 = b := Nat.mod_eq_of_lt (by omega)
  have hx : a ^^^ b < 2 ^ 32 := Nat.xor_lt_two_pow (by omega) (by omega)
  show IntKind.u32.wrap (((BitVec.ofInt 32 (a : Int) ^^^ BitVec.ofInt 32 (b : Int)).toNat : Nat) : Int) = _
  rw [BitVec.toNat_xor, BitVec.ofInt_natCast, BitVec.ofInt_natCast, BitVec.toNat_ofNat, BitVec.toNat_ofNat, ha', hb']
  exact IntWalk.u32_in ((a ^^^ b : Nat) : Int) (by omega)
theorem fnv_cast (h : Nat) (c : UInt8) : ((h ^^^ c.toNat : Nat) : Int) * 16777619 % 4294967296 = (fnv h c : Int) := by
  unfold fnv
  omega
set_option maxHeartbeats 1000000 in
theorem hash_any (s : ByteArray) (hs : s.size ≤ maxLen) (w : World) : Calls Try.prog 29 #[.string s] w fun e w' => e = .returned (.int .i64 (hashL s.data.toList)) ∧ w = w' := by
  unfold maxLen at hs
  go_enter Try.func29, Try.ntmps29
  go_wp2_with fail
  go_loop [3, 7] (fun vh vi => ∃ k h : Nat, k ≤ s.size ∧ vi = .int .i64 (k : Int) ∧ vh = .int .u32 (h : Int) ∧ h < 4294967296 ∧ Hid (hashL (s.data.toList.take k) = h)) (fun _ vi => s.size - (intOf vi).toNat)
  case atStart => exact ⟨0, 2166136261, by omega, rfl, rfl, by decide, rfl⟩
  case round =>
    obtain ⟨k, h, hk, rfl, rfl, hh, H⟩ := hrel
    by_cases hlt : k < s.size
    · have hc := s[k].toNat_lt
      have hx := bits_xor_u32 h s[k].toNat hh (by omega)
      have hm : ((s[k].toNat : Int) % 4294967296) = s[k].toNat := by omega
      have hf := fnv_cast h s[k]
      go_wp2_with fail
      go_round
      case rel => exact ⟨k + 1, fnv h s[k], hlt, by go_num, by first | rfl | (rw [← hf]; rfl) | (rw [← hf]), fnv_lt _ _, by rw [take_snoc s hlt, hashL_snoc, H.out]; trivial⟩
      case measure => simp [intOf]; omega
    · obtain rfl : k = s.size := by omega
      have hf : hashL s.data.toList = h := by rw [← H.out, List.take_of_length_le (by rw [Array.length_toList]; exact Nat.le_refl _)]
      have HF := Lib.hid hf
      clear H hf
      go_wp2
      go_ret
      rw [HF.out]
      exact ⟨rfl, rfl⟩
set_option maxHeartbeats 1000000 in
theorem refHash_any (s : ByteArray) (hs : s.size ≤ maxLen) (w : World) : Calls Try.prog 30 #[.string s] w fun e w' => e = .returned (.int .i64 (hashL s.data.toList)) ∧ w = w' := by
  unfold maxLen at hs
  go_enter Try.func30, Try.ntmps30
  go_wp2_with fail
  go_loop [3, 4] (fun vh vi => ∃ k h : Nat, k ≤ s.size ∧ vi = .int .i64 (k : Int) ∧ vh = .int .u32 (h : Int) ∧ h < 4294967296 ∧ Hid (hashL (s.data.toList.take k) = h)) (fun _ vi => s.size - (intOf vi).toNat)
  case atStart => exact ⟨0, 2166136261, by omega, rfl, rfl, by decide, rfl⟩
  case round =>
    obtain ⟨k, h, hk, rfl, rfl, hh, H⟩ := hrel
    by_cases hlt : k < s.size
    · have hc := s[k].toNat_lt
      have hx := bits_xor_u32 h s[k].toNat hh (by omega)
      have hm : ((s[k].toNat : Int) % 4294967296) = s[k].toNat := by omega
      have hf := fnv_cast h s[k]
      go_wp2_with fail
      go_round
      case rel => exact ⟨k + 1, fnv h s[k], hlt, by go_num, by first | rfl | (rw [← hf]; rfl) | (rw [← hf]), fnv_lt _ _, by rw [take_snoc s hlt, hashL_snoc, H.out]; trivial⟩
      case measure => simp [intOf]; omega
    · obtain rfl : k = s.size := by omega
      have hf : hashL s.data.toList = h := by rw [← H.out, List.take_of_length_le (by rw [Array.length_toList]; exact Nat.le_refl _)]
      have HF := Lib.hid hf
      clear H hf
      go_wp2
      go_ret
      rw [HF.out]
      exact ⟨rfl, rfl⟩
end Go.Proofs.Ytbphhdmnfepbnaa.Lab
