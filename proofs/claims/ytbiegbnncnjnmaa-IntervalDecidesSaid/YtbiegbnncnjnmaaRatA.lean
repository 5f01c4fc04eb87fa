/- The contracts of the reference of layer 3: gcd, abs, magnitude. -/
import Derived.Test.YtbiegbnncnjnmaaProg
import Derived.Test.YtbiegbnncnjnmaaRatWide
import Derived.WalkKit
import Derived.WalkSpells
import Derived.WalkLawsBesides
import Derived.Lib.Hide
import Derived.Lib.VarintMem
import Derived.IntWalk
import Derived.KernelRfl
import Derived.BigRegion
import Derived.StillTailTactics
import Derived.Outline
set_option linter.unusedVariables false
set_option linter.unusedSimpArgs false
namespace Go.Proofs.Ytbiegbnncnjnmaa.Rat
open Go.RowKit

set_option maxHeartbeats 400000 in
theorem abs_any (z : Int) (h1 : -9223372036854775807 ≤ z) (h2 : z ≤ 9223372036854775807) (w : World) :
    Calls Try.prog 66 #[.int .i64 z] w fun e w' => e = .returned (.int .i64 (z.natAbs : Nat)) ∧ w = w' := by
  by_cases h : z < 0
  · have e : ((z.natAbs : Nat) : Int) = -z := by omega
    rw [e]
    go_enter Try.func66, Try.ntmps66
    go_wp2
    go_ret
    exact ⟨rfl, rfl⟩
  · have e : ((z.natAbs : Nat) : Int) = z := by omega
    rw [e]
    go_enter Try.func66, Try.ntmps66
    go_wp2
    go_ret
    exact ⟨rfl, rfl⟩


set_option maxHeartbeats 400000 in
theorem gcd_draws (a b : Nat) (ha : a < 9223372036854775808) (hb : b < 9223372036854775808) (w : World) :
    Calls Try.prog 65 #[.int .i64 a, .int .i64 b] w fun e w' => e = .returned (.int .i64 (Nat.gcd a b : Nat)) ∧ ∃ m, w' = w.drewN m := by
  go_enter Try.func65, Try.ntmps65
  go_wp2
  go_loopw [0, 1] (fun va vb wr => ∃ x y : Nat, va = .int .i64 x ∧ vb = .int .i64 y ∧ x < 9223372036854775808 ∧ y < 9223372036854775808 ∧ Hid (Nat.gcd a b = Nat.gcd x y) ∧ Hid (∃ m, wr = w.drewN m)) (fun _ vb _ => (intOf vb).toNat)
  case atStart => exact ⟨a, b, rfl, rfl, ha, hb, rfl, ⟨0, rfl⟩⟩
  case round =>
    obtain ⟨x, y, rfl, rfl, hx, hy, H, HB⟩ := hrel
    by_cases h0 : y = 0
    · subst h0
      have HG : Hid (Nat.gcd a b = x) := by show _ = _; rw [H.out, Nat.gcd_zero_right]
      go_wp2
      go_ret
      exact ⟨by rw [HG.out]; rfl, HB.out⟩
    · have hy0 : 0 < (y : Int) := by omega
      have HG : Hid (Nat.gcd a b = Nat.gcd y (x % y)) := by show _ = _; rw [H.out, Nat.gcd_comm, Nat.gcd_rec, Nat.gcd_comm]
      have hlt := Nat.mod_lt x (show 0 < y by omega)
      have hm : ((x : Int) % (y : Int)) = ((x % y : Nat) : Int) := by simp
      have HM := Lib.hid hm
      have HD : Hid (∃ m, wr.drew = w.drewN m) := by
        obtain ⟨m, hm⟩ := HB.out
        exact ⟨m + 1, by rw [hm]; rfl⟩
      clear hm
      go_wp2
      go_region
      go_wp2
      go_roundw
      case rel => exact ⟨y, x % y, rfl, by rw [HM.out], by omega, by omega, HG, HD⟩
      case measure => simp [intOf]; omega
theorem gcd_any (a b : Nat) (ha : a < 9223372036854775808) (hb : b < 9223372036854775808) (w : World) :
    Calls Try.prog 65 #[.int .i64 a, .int .i64 b] w fun e w' => e = .returned (.int .i64 (Nat.gcd a b : Nat)) ∧ Below w.heap.size w w' := by
  refine (gcd_draws a b ha hb w).mono ?_
  rintro e w' ⟨rfl, m, rfl⟩
  exact ⟨rfl, below_drewN (Below.refl _ _) m⟩
end Go.Proofs.Ytbiegbnncnjnmaa.Rat
