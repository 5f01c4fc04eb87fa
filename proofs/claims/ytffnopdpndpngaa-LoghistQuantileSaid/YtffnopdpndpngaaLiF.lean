/- Layer 12: the reference's power and index leave the world as it was. -/
import Derived.Test.YtffnopdpndpngaaLiE
set_option linter.unusedVariables false
set_option linter.unusedSimpArgs false
namespace Go.Proofs.Ytffnopdpndpngaa.Lh
open Go.RowKit
set_option maxHeartbeats 1000000 in
theorem power_same (n : Nat) (hn : n ≤ 61) (w : World) :
    Calls Try.prog 63 #[.int .i64 n] w fun e w' => e = .returned (.int .i64 ((2 ^ n : Nat) : Int)) ∧ w' = w := by
  go_enter Try.func63, Try.ntmps63
  go_wp2
  go_loop [3, 4] (fun vo vi => ∃ k P : Nat, k ≤ n ∧ vo = .int .i64 P ∧ vi = .int .i64 k ∧ P ≤ 2305843009213693952 ∧ Hid (P = 2 ^ k)) (fun _ vi => n - (intOf vi).toNat)
  case atStart => exact ⟨0, 1, by omega, rfl, rfl, by omega, rfl⟩
  case round =>
    obtain ⟨k, P, hk, rfl, rfl, hP, HP⟩ := hrel
    by_cases hlt : k < n
    · have HQ : Hid (2 * P = 2 ^ (k + 1)) := by show _ = _; rw [HP.out, Nat.pow_succ]; omega
      have hQ : 2 * P ≤ 2305843009213693952 := by
        rw [HQ.out]
        exact Nat.le_trans ((Nat.pow_le_pow_iff_right (by decide)).mpr (show k + 1 ≤ 61 by omega)) (by decide)
      go_wp2
      go_round
      case rel => exact ⟨k + 1, 2 * P, by omega, by go_num, by go_num, hQ, HQ⟩
      case measure => simp [intOf]; omega
    · have e : k = n := by omega
      subst e
      have HP2 : Hid ((P : Int) = ((2 ^ k : Nat) : Int)) := by show _ = _; rw [HP.out]
      clear HP
      go_wp2
      go_ret
      exact ⟨by rw [HP2.out]; rfl, rfl⟩
set_option maxHeartbeats 1000000 in
theorem index_same (p v : Nat) (hp : p ≤ 8) (hv : v ≤ 1099511627776) (w : World) :
    Calls Try.prog 40 #[.int .i64 p, .int .i64 v] w fun e w' => e = .returned (.int .i64 ((ix p v : Nat) : Int)) ∧ w' = w := by
  obtain ⟨P, hP⟩ : ∃ P, 2 ^ p = P := ⟨_, rfl⟩
  have hP8 := pow8 hp
  have hP1 := pow_pos2 p
  rw [hP] at hP8 hP1
  have C : Hid (Calls Try.prog 63 #[.int .i64 p] w fun e w' => e = .returned (.int .i64 (P : Int)) ∧ w' = w) := by
    rw [← hP]
    exact power_same p (by omega) w
  have HP := Lib.hid hP
  clear hP
  go_enter Try.func40, Try.ntmps40
  go_wp2
  go_loop [5, 6] (fun vk vx => ∃ k x : Nat, vk = .int .i64 k ∧ vx = .int .i64 x ∧ k ≤ 40 ∧ x ≤ 1099511627776 ∧ Hid (Ind p v k x)) (fun _ vx => (intOf vx).toNat)
  case atStart => exact ⟨0, v, rfl, rfl, by omega, hv, Ind.start p v⟩
  case round =>
    obtain ⟨k, x, rfl, rfl, hk, hx, HI⟩ := hrel
    by_cases hlt : 2 * P ≤ x
    · have hs : k + 1 ≤ 40 := HI.out.small (by rw [HP.out]; exact hlt) hv
      have HN : Hid (Ind p v (k + 1) (x / 2)) := HI.out.next (by rw [HP.out]; exact hlt)
      have hx2 : (x : Int) / 2 = ((x / 2 : Nat) : Int) := by simp
      have HX := Lib.hid hx2
      clear hx2
      go_wp2_with (go_at_call 63; (with_reducible refine C.out.mono ?_); rintro e w1 ⟨rfl, rfl⟩)
      go_round
      case rel => exact ⟨k + 1, x / 2, by go_num, by first | go_num | (rw [HX.out]) | (go_num; rw [HX.out]), hs, by omega, HN⟩
      case measure => simp [intOf]; omega
    · have HD : Hid (ix p v = k * P + x) := by show _ = _; rw [HI.out.done (by rw [HP.out]; exact hlt), HP.out]
      have hkp : k * P ≤ 40 * 256 := Nat.mul_le_mul hk hP8
      have h1 : (k : Int) * (P : Int) = ((k * P : Nat) : Int) := by simp
      have h2 : 0 ≤ (k : Int) * (P : Int) := by omega
      have h3 : (k : Int) * (P : Int) ≤ 10240 := by omega
      have HK : Hid ((k : Int) * (P : Int) + x = ((ix p v : Nat) : Int)) := by show _ = _; rw [HD.out]; omega
      clear h1 hkp HD HI
      go_wp2_with (go_at_call 63; (with_reducible refine C.out.mono ?_); rintro e w1 ⟨rfl, rfl⟩)
      go_ret
      exact ⟨by rw [← HK.out]; rfl, rfl⟩
theorem index_I (p v : Int) (hp : 0 ≤ p ∧ p ≤ 8) (hv : 0 ≤ v ∧ v ≤ 1099511627776) (w : World) :
    Calls Try.prog 40 #[.int .i64 p, .int .i64 v] w fun e w' => e = .returned (.int .i64 (ixI p v)) ∧ w' = w := by
  have C := index_same p.toNat v.toNat (by omega) (by omega) w
  rw [show ((p.toNat : Nat) : Int) = p by omega, show ((v.toNat : Nat) : Int) = v by omega] at C
  exact C
end Go.Proofs.Ytffnopdpndpngaa.Lh
