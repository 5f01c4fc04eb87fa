/- burst, the law's own function of layer 2. -/
import Derived.Test.YtnkaigmonkmedaaRefC
namespace Go.Proofs.Ytnkaigmonkmedaa
open Go.RowKit

theorem and_one (mask k : Nat) (hm : mask < 4294967296) : bits .and .u32 ((mask : Int) / 2 ^ k) 1 = ((mask / 2 ^ k % 2 : Nat) : Int) := by
  have e : ((mask : Int) / 2 ^ k) = ((mask / 2 ^ k : Nat) : Int) := by simp
  have hl : mask / 2 ^ k < 4294967296 := Nat.lt_of_le_of_lt (Nat.div_le_self _ _) hm
  have h := (bits_nat .u32 32 (by decide) (fun n h0 h1 => IntWalk.u32_in n (by omega)) (mask / 2 ^ k) 1 (by omega) (by decide)).1
  rw [e]
  rw [show ((1 : Nat) : Int) = 1 from rfl] at h
  rw [h, Nat.and_one_is_mod]
theorem bit_set {mask k : Nat} (hm : mask < 4294967296) (h : mask / 2 ^ k % 2 = 1) : (bits .and .u32 ((mask : Int) / 2 ^ k) 1 == 0) = false := by
  rw [and_one mask k hm]; exact beq_eq_false_iff_ne.2 (by omega)
theorem bit_unset {mask k : Nat} (hm : mask < 4294967296) (h : ¬ mask / 2 ^ k % 2 = 1) : (bits .and .u32 ((mask : Int) / 2 ^ k) 1 == 0) = true := by
  rw [and_one mask k hm]; exact beq_iff_eq.2 (by omega)
theorem burst_yes {l : List UInt8} {mask bit i : Nat} (h : mask / 2 ^ i % 2 = 1) : burstC l mask bit (i + 1) = flip (burstC l mask bit i) (bit + i) := by rw [burstC, if_pos h]
theorem burst_no {l : List UInt8} {mask bit i : Nat} (h : ¬ mask / 2 ^ i % 2 = 1) : burstC l mask bit (i + 1) = burstC l mask bit i := by rw [burstC, if_neg h]
/-- '1 << (k % 8)' as a byte. -/
theorem pow_bit (k : Nat) : (2 : Int) ^ (k % 8) % 256 = ((bitOf k).toNat : Int) := by
  have h8 : k % 8 < 8 := Nat.mod_lt _ (by decide)
  have hp : 2 ^ (k % 8) ≤ 2 ^ 7 := Nat.pow_le_pow_right (by decide) (by omega)
  have h3 : ((2 : Int) ^ (k % 8)) = ((2 ^ (k % 8) : Nat) : Int) := by simp
  rw [bitOf_toNat, h3]
  clear h3
  generalize 2 ^ (k % 8) = p at *
  omega
open Classical in
/-- What burst hands back. -/
noncomputable def burstOut (l : List UInt8) (mask bit : Nat) : Value :=
  if ∀ j, j < 32 → mask / 2 ^ j % 2 = 1 → (bit + j) / 8 < l.length then .tuple #[.string ⟨(burstC l mask bit 32).toArray⟩, .bool (!decide (mask = 0))] else .tuple #[.string ⟨#[]⟩, .bool false]
theorem burstOut_ok {l : List UInt8} {mask bit : Nat} (h : ∀ j, j < 32 → mask / 2 ^ j % 2 = 1 → (bit + j) / 8 < l.length) :
    burstOut l mask bit = .tuple #[.string ⟨(burstC l mask bit 32).toArray⟩, .bool (!decide (mask = 0))] := if_pos h
theorem burstOut_no {l : List UInt8} {mask bit k : Nat} (hk : k < 32) (h1 : mask / 2 ^ k % 2 = 1) (h2 : ¬ (bit + k) / 8 < l.length) :
    burstOut l mask bit = .tuple #[.string ⟨#[]⟩, .bool false] := if_neg (fun h => h2 (h k hk h1))

set_option maxHeartbeats 1000000 in
theorem burst_any (s : ByteArray) (mask bit : Nat) (hm : mask < 4294967296) (hb : bit < 3000) (w : World) :
    Calls Try.prog 24 #[.string s, .int .u32 mask, .int .i64 bit] w fun e w' => e = .returned (burstOut s.data.toList mask bit) ∧ Below w.heap.size w w' := by
  obtain ⟨cap, w1, hcv, hrow, hbel, hsz⟩ := conv_bytes s w
  have HR := Lib.hid hrow
  have HB := Lib.hid hbel
  clear hrow hbel hsz
  go_enter Try.func24, Try.ntmps24
  go_wp2
  go_loopw [13] (fun vi wr => ∃ (k : Nat), k ≤ 32 ∧ vi = .int .i64 k ∧ Hid (∀ j, j < k → mask / 2 ^ j % 2 = 1 → (bit + j) / 8 < s.data.toList.length) ∧ RowIs wr w.heap.size (burstC s.data.toList mask bit k) ∧ Below w.heap.size w wr)
    (fun vi _ => 32 - (intOf vi).toNat)
  case atStart => exact ⟨0, Nat.zero_le _, rfl, by show ∀ j, j < 0 → _; omega, HR.out, HB.out⟩
  case round =>
    obtain ⟨k, hk, rfl, HA, hrow, hB⟩ := hrel
    have HR2 := Lib.hid hrow
    have HB2 := Lib.hid hB
    clear hrow hB HR HB
    by_cases hlt : k < 32
    · by_cases hset : mask / 2 ^ k % 2 = 1
      · have hbz := bit_set hm hset
        have HN : Hid (burstC s.data.toList mask bit (k + 1) = flip (burstC s.data.toList mask bit k) (bit + k)) := burst_yes hset
        have HSET := Lib.hid hset
        clear hset
        by_cases hin : (bit + k) / 8 < s.size
        · have HA2 : Hid (∀ j, j < k + 1 → mask / 2 ^ j % 2 = 1 → (bit + j) / 8 < s.data.toList.length) := by
            intro j hj h
            by_cases e : j = k
            · subst e; simpa using hin
            · exact HA.out j (by omega) h
          have hlen := burstC_length s.data.toList mask bit k
          generalize burstC s.data.toList mask bit k = L at *
          have hkL : (bit + k) / 8 < L.length := by rw [hlen]; simpa using hin
          obtain ⟨hcell, hfro⟩ := HR2.out ((bit + k) / 8) hkL
          generalize hy : L[(bit + k) / 8]?.getD 0 = y at *
          have HY := Lib.hid hy
          have HKL := Lib.hid hkL
          clear hy hkL hlen
          have hi1 : ((bit : Int) + k) / 8 < s.size := by omega
          have hi0 : 0 ≤ ((bit : Int) + k) / 8 := by omega
          have HX := Lib.hid (bits_xor_u8 y (bitOf (bit + k)))
          go_wp2
          go_region
          go_wp2
          go_roundw
          case rel =>
            refine ⟨k + 1, by omega, by go_num, HA2, ?_, (HB2.out.setCell (Nat.le_refl _) _).drew⟩
            rw [HN.out, flip, List.getD_eq_getElem?_getD, HY.out, pow_bit, HX.out]
            exact (HR2.out.set _ HKL.out _).drew
          case measure => simp [intOf]; omega
        · have HO : Hid (burstOut s.data.toList mask bit = .tuple #[.string ⟨#[]⟩, .bool false]) := burstOut_no hlt HSET.out (by simpa using hin)
          have hi1 : (s.size : Int) ≤ ((bit : Int) + k) / 8 := by omega
          go_wp2
          go_ret2
          exact ⟨by rw [HO.out]; rfl, HB2.out⟩
      · have hbz := bit_unset hm hset
        have HN : Hid (burstC s.data.toList mask bit (k + 1) = burstC s.data.toList mask bit k) := burst_no hset
        have HA2 : Hid (∀ j, j < k + 1 → mask / 2 ^ j % 2 = 1 → (bit + j) / 8 < s.data.toList.length) := by
          intro j hj h
          by_cases e : j = k
          · subst e; exact absurd h hset
          · exact HA.out j (by omega) h
        clear hset
        go_wp2
        go_roundw
        case rel => exact ⟨k + 1, by omega, by go_num, HA2, by rw [HN.out]; exact HR2.out, HB2.out⟩
        case measure => simp [intOf]; omega
    · obtain rfl : k = 32 := by omega
      have HO := Lib.hid (burstOut_ok HA.out)
      have hcv2 := conv_row HR2.out s.size cap (by rw [burstC_length]; simp)
      generalize burstC s.data.toList mask bit 32 = L at *
      have hmz : (((mask : Int) != 0) = true ∧ (!decide (mask = 0)) = true) ∨ (((mask : Int) != 0) = false ∧ (!decide (mask = 0)) = false) := by
        by_cases e : mask = 0
        · right; subst e; exact ⟨rfl, rfl⟩
        · left; exact ⟨by rw [bne_iff_ne]; omega, by simp [e]⟩
      rcases hmz with ⟨g1, g2⟩ | ⟨g1, g2⟩
      all_goals
        rw [g2] at HO
        go_wp2
        go_ret2
        exact ⟨by rw [HO.out]; rfl, HB2.out⟩
end Go.Proofs.Ytnkaigmonkmedaa
