/- The contracts of get, Read and ReadSigned of the reference. -/
import Derived.Test.YtpinmmmbmhfmiaaLow
import Derived.Test.YtpinmmmbmhfmiaaMath
namespace Go.Proofs.Ytpinmmmbmhfmiaa
open Go.RowKit

/-- The rest of a list from place k on. -/
theorem drop_cons (s : ByteArray) (k : Nat) (h : k < s.size) : s.data.toList.drop k = s[k] :: s.data.toList.drop (k + 1) := by
  rw [List.drop_eq_getElem_cons (by simpa using h)]; rfl
/-- What is still to be read when k bytes have been. -/
def Still (s : ByteArray) (k acc : Nat) : Prop := rd 2305843009213693952 0 0 s.data.toList = rd 2305843009213693952 k acc (s.data.toList.drop k)

theorem pow_le56 (k : Nat) (hk : k ≤ 8) : 1 ≤ 2 ^ (7 * k) ∧ 2 ^ (7 * k) ≤ 72057594037927936 :=
  ⟨Nat.one_le_two_pow, Nat.le_trans (Nat.pow_le_pow_right (by omega) (show 7 * k ≤ 56 by omega)) (by decide)⟩

theorem acc_lt {k acc : Nat} (b : Nat) (hacc : acc < 2 ^ (7 * k)) : acc + b % 128 * 2 ^ (7 * k) < 2 ^ (7 * (k + 1)) := by
  rw [pow7]
  have h1 : b % 128 * 2 ^ (7 * k) ≤ 127 * 2 ^ (7 * k) := Nat.mul_le_mul_right _ (by omega)
  omega

/-- One group more does not overflow. -/
theorem acc_step {k acc : Nat} (b : Nat) (hk : k ≤ 8) (hacc : acc < 2 ^ (7 * k)) : wrap64 ((acc : Int) + wrap64 ((b : Int) % 128 * 2 ^ (7 * k))) = ((acc + b % 128 * 2 ^ (7 * k) : Nat) : Int) := by
  obtain ⟨h1, h2⟩ := pow_le56 k hk
  have h3 : b % 128 * 2 ^ (7 * k) ≤ 127 * 2 ^ (7 * k) := Nat.mul_le_mul_right _ (by omega)
  have e : ((b : Int) % 128 * 2 ^ (7 * k)) = ((b % 128 * 2 ^ (7 * k) : Nat) : Int) := by simp
  rw [e]
  generalize b % 128 * 2 ^ (7 * k) = p at *
  generalize 2 ^ (7 * k) = q at *
  have i1 : wrap64 (p : Int) = p := IntWalk.wrap64_in _ (by constructor <;> omega)
  rw [i1, IntWalk.wrap64_in _ (by constructor <;> omega)]
  omega

set_option maxHeartbeats 1000000 in
set_option maxRecDepth 100000 in
theorem get_any (s : ByteArray) (w : World) :
    Calls Try.prog 81 #[.string s] w fun e w' => e = .returned (.tuple #[.int .i64 ((rd 2305843009213693952 0 0 s.data.toList).1 : Nat), .int .i64 ((rd 2305843009213693952 0 0 s.data.toList).2.1 : Nat), .int .i64 ((rd 2305843009213693952 0 0 s.data.toList).2.2 : Nat)]) ∧ w = w' := by
  go_enter Try.func81, Try.ntmps81
  go_wp2
  go_loop [5, 6] (fun n i => ∃ k acc : Nat, k ≤ 8 ∧ k ≤ s.size ∧ i = .int .i64 k ∧ n = .int .i64 acc ∧ acc < 2 ^ (7 * k) ∧ Still s k acc) (fun _ i => s.size - (intOf i).toNat)
  case atStart => exact ⟨0, 0, by omega, Nat.zero_le _, rfl, rfl, by decide, rfl⟩
  case round =>
    obtain ⟨k, acc, hk8, hk, rfl, rfl, hacc, hst⟩ := hrel
    by_cases hlt : k < s.size
    · have hH := Lib.hid hacc
      clear hacc
      have hbb := s[k].toNat_lt
      have HD := Lib.hid (drop_cons s k hlt)
      by_cases hb : 128 ≤ s[k].toNat
      · by_cases h8 : k = 8
        · have hb8 : ((k : Int) == 8) = true := beq_iff_eq.2 (by omega)
          have H8 := Lib.hid h8
          clear h8
          go_wp2
          go_ret3
          refine ⟨?_, rfl⟩
          rw [hst, HD.out, rd_long hb H8.out]
          rfl
        · have hb8 : ((k : Int) == 8) = false := beq_eq_false_iff_ne.2 (by omega)
          go_wp2
          go_round
          case rel =>
            refine ⟨k + 1, acc + s[k].toNat % 128 * 2 ^ (7 * k), by omega, by omega, by go_num, by rw [acc_step _ hk8 hH.out], acc_lt _ hH.out, ?_⟩
            unfold Still
            rw [hst, HD.out, rd_more hb h8]
          case measure => simp [intOf]; omega
      · have HM := Lib.hid (acc_step s[k].toNat hk8 hH.out)
        have H9 := Lib.hid (show s[k].toNat % 128 = s[k].toNat by omega)
        have hb8 : ((k : Int) == 8) = true ∨ ((k : Int) == 8) = false := by cases ((k : Int) == 8) <;> simp
        by_cases hz : 0 < k ∧ s[k].toNat = 0
        · obtain ⟨hk0, hz0⟩ := hz
          have hz1 : ((s[k].toNat : Int) == 0) = true := beq_iff_eq.2 (by omega)
          have HZ := Lib.hid hz0
          clear hz0
          rcases hb8 with hb8 | hb8
          all_goals
            go_wp2
            go_ret3
            refine ⟨?_, rfl⟩
            rw [hst, HD.out, rd_bad (by omega) (.inl ⟨hk0, HZ.out⟩)]
            rfl
        · by_cases hm : 2305843009213693952 < acc + s[k].toNat % 128 * 2 ^ (7 * k)
          · have hm1 : 2305843009213693952 < wrap64 ((acc : Int) + wrap64 ((s[k].toNat : Int) % 128 * 2 ^ (7 * k))) := by rw [HM.out]; omega
            have HB : Hid (rd 2305843009213693952 k acc (s[k] :: s.data.toList.drop (k + 1)) = (0, 0, 12)) := rd_bad (by omega) (.inr (by rw [← H9.out]; exact hm))
            clear hm
            have hz1 : (k ≤ 0 ∧ 0 ≤ s[k].toNat) ∨ (0 < k ∧ ((s[k].toNat : Int) == 0) = false) := by
              by_cases hk0 : 0 < k
              · exact .inr ⟨hk0, beq_eq_false_iff_ne.2 (by omega)⟩
              · exact .inl ⟨by omega, by omega⟩
            clear hz
            rcases hb8 with hb8 | hb8 <;> rcases hz1 with ⟨hz1, hz2⟩ | ⟨hz1, hz2⟩
            all_goals
              go_wp2
              go_ret3
              refine ⟨?_, rfl⟩
              rw [hst, HD.out, HB.out]
              rfl
          · have hm1 : wrap64 ((acc : Int) + wrap64 ((s[k].toNat : Int) % 128 * 2 ^ (7 * k))) ≤ 2305843009213693952 := by rw [HM.out]; omega
            have HB : Hid (rd 2305843009213693952 k acc (s[k] :: s.data.toList.drop (k + 1)) = (acc + s[k].toNat % 128 * 2 ^ (7 * k), k + 1, 0)) := by
              have := rd_last (most := 2305843009213693952) (i := k) (acc := acc) (b := s[k]) (r := s.data.toList.drop (k + 1)) (by omega) (by rw [← H9.out]; omega)
              rw [← H9.out] at this
              exact this
            clear hm
            have hz1 : (k ≤ 0 ∧ 0 ≤ s[k].toNat) ∨ (0 < k ∧ ((s[k].toNat : Int) == 0) = false) := by
              by_cases hk0 : 0 < k
              · exact .inr ⟨hk0, beq_eq_false_iff_ne.2 (by omega)⟩
              · exact .inl ⟨by omega, by omega⟩
            clear hz
            rcases hb8 with hb8 | hb8 <;> rcases hz1 with ⟨hz1, hz2⟩ | ⟨hz1, hz2⟩
            all_goals
              go_wp2
              go_ret3
              refine ⟨?_, rfl⟩
              rw [hst, HD.out, HB.out, HM.out]
              rfl
    · have HD : Hid (s.data.toList.drop k = []) := List.drop_eq_nil_of_le (by simpa using hlt)
      go_wp2
      go_ret3
      refine ⟨?_, rfl⟩
      rw [hst, HD.out, rd_nil]
      rfl

theorem rd_le (most : Nat) (l : List UInt8) : (rd most 0 0 l).1 ≤ most := by
  by_cases h : (rd most 0 0 l).2.2 = 0
  · obtain ⟨m, k, _, h2, _⟩ := rd_ok most l 0 0 h
    exact h2
  · rw [(rd_err most l 0 0 h).1]; omega

set_option maxHeartbeats 1000000 in
theorem refRead_any (s : ByteArray) (w : World) :
    Calls Try.prog 59 #[.string s] w fun e w' => e = .returned (.tuple #[.int .i64 ((rd 1152921504606846976 0 0 s.data.toList).1 : Nat), .int .i64 ((rd 1152921504606846976 0 0 s.data.toList).2.1 : Nat), .int .i64 ((rd 1152921504606846976 0 0 s.data.toList).2.2 : Nat)]) ∧ w = w' := by
  have hle := rd_le 2305843009213693952 s.data.toList
  have hg := get_any s w
  rw [rd_less 1152921504606846976 2305843009213693952 (by omega) s.data.toList 0 0]
  generalize rd 2305843009213693952 0 0 s.data.toList = r at *
  obtain ⟨n, k, e⟩ := r
  dsimp only at *
  have HG := Lib.hid hg
  clear hg
  by_cases he : e = 0
  · subst he
    by_cases hm : 1152921504606846976 < n
    · rw [if_pos ⟨rfl, hm⟩]
      dsimp only
      go_enter Try.func59, Try.ntmps59
      go_wp2_with fail
      refine HG.out.mono ?_
      clear HG
      rintro e' w' ⟨rfl, rfl⟩
      go_wp2
      go_ret3
      exact ⟨rfl, rfl⟩
    · rw [if_neg (by omega)]
      dsimp only
      go_enter Try.func59, Try.ntmps59
      go_wp2_with fail
      refine HG.out.mono ?_
      clear HG
      rintro e' w' ⟨rfl, rfl⟩
      go_wp2
      go_ret3
      exact ⟨rfl, rfl⟩
  · have he1 : ((e : Int) == 0) = false := beq_eq_false_iff_ne.2 (by omega)
    rw [if_neg (by omega)]
    dsimp only
    go_enter Try.func59, Try.ntmps59
    go_wp2_with fail
    refine HG.out.mono ?_
    clear HG
    rintro e' w' ⟨rfl, rfl⟩
    go_wp2
    go_ret3
    exact ⟨rfl, rfl⟩

end Go.Proofs.Ytpinmmmbmhfmiaa
