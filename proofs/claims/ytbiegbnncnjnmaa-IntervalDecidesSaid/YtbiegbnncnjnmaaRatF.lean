/- The contracts of the reference of layer 3: Check. -/
import Derived.Test.YtbiegbnncnjnmaaRatA
import Derived.BigQuiet
set_option linter.unusedVariables false
set_option linter.unusedSimpArgs false
namespace Go.Proofs.Ytbiegbnncnjnmaa.Rat
open Go.RowKit

/-- A valid fraction, as numbers of the program. -/
def chk (n d : Int) : Prop := (1 ≤ d ∧ d ≤ 1152921504606846976) ∧ (-1152921504606846976 ≤ n ∧ n ≤ 1152921504606846976) ∧ Nat.gcd n.natAbs d.natAbs = 1
instance (n d : Int) : Decidable (chk n d) := by unfold chk; infer_instance
/-- A fraction, as a value. -/
def rat (n d : Int) : Value := .agg #[.int .i64 n, .int .i64 d]

theorem abs_same (z : Int) (h1 : -9223372036854775807 ≤ z) (h2 : z ≤ 9223372036854775807) (w : World) :
    Calls Try.prog 66 #[.int .i64 z] w fun e w' => e = .returned (.int .i64 (z.natAbs : Nat)) ∧ w' = w :=
  (abs_any z h1 h2 w).mono fun _ _ h => ⟨h.1, h.2.symm⟩
set_option maxHeartbeats 1000000 in
theorem check_any (n d : Int) (w : World) (hn : -9223372036854775808 ≤ n ∧ n ≤ 9223372036854775807) (hd : -9223372036854775808 ≤ d ∧ d ≤ 9223372036854775807) :
    Calls Try.prog 38 #[rat n d] w fun e w' => e = .returned (.int .i64 (if chk n d then 0 else 1)) ∧ Below w.heap.size w w' := by
  unfold rat
  by_cases h1 : d < 1
  · rw [if_neg (by unfold chk; omega)]
    go_enter Try.func38, Try.ntmps38
    go_wp2_with fail
    go_quiet (fail)
    go_wp2
    go_ret
    exact ⟨rfl, below_drewN ((Below.refl _ _).alloc (Nat.le_refl _) _) _⟩
  · by_cases h2 : 1152921504606846976 < d
    · rw [if_neg (by unfold chk; omega)]
      have g1 : decide (d < 1) = false := decide_eq_false h1
      go_enter Try.func38, Try.ntmps38
      go_wp2_with fail
      go_quiet (fail)
      go_wp2
      go_ret
      exact ⟨rfl, below_drewN ((Below.refl _ _).alloc (Nat.le_refl _) _) _⟩
    · have g1 : decide (d < 1) = false := decide_eq_false h1
      have g2 : decide (1152921504606846976 < d) = false := decide_eq_false h2
      by_cases h3 : n < -1152921504606846976
      · rw [if_neg (by unfold chk; omega)]
        go_enter Try.func38, Try.ntmps38
        go_wp2_with fail
        go_quiet (fail)
        go_wp2
        go_ret
        exact ⟨rfl, below_drewN ((Below.refl _ _).alloc (Nat.le_refl _) _) _⟩
      · have g3 : decide (n < -1152921504606846976) = false := decide_eq_false h3
        by_cases h4 : 1152921504606846976 < n
        · rw [if_neg (by unfold chk; omega)]
          go_enter Try.func38, Try.ntmps38
          go_wp2_with fail
          go_quiet (fail)
          go_wp2
          go_ret
          exact ⟨rfl, below_drewN ((Below.refl _ _).alloc (Nat.le_refl _) _) _⟩
        · have g4 : decide (1152921504606846976 < n) = false := decide_eq_false h4
          obtain ⟨D, rfl⟩ := Int.eq_ofNat_of_zero_le (show 0 ≤ d by omega)
          have A := Lib.hid fun w => abs_same n (by omega) (by omega) w
          have G := Lib.hid fun w => gcd_draws n.natAbs D (by omega) (by omega) w
          have hchk : chk n D ↔ Nat.gcd n.natAbs D = 1 := ⟨fun h => h.2.2, fun h => ⟨⟨by omega, by omega⟩, ⟨by omega, by omega⟩, h⟩⟩
          by_cases hg : Nat.gcd n.natAbs D = 1
          · rw [if_pos (hchk.2 hg)]
            rw [hg] at G
            clear hchk hg
            generalize n.natAbs = N at *
            go_enter Try.func38, Try.ntmps38
            go_wp2_with fail
            go_quiet (first | (go_at_call 66; refine Calls.quiet_of_same (A.out _)) | (go_at_call 65; refine Calls.quiet_of (G.out _)))
            go_wp2
            go_ret
            exact ⟨rfl, below_drewN ((Below.refl _ _).alloc (Nat.le_refl _) _) _⟩
          · rw [if_neg (fun h => hg (hchk.1 h))]
            have gg : ((Nat.gcd n.natAbs D : Int) != 1) = true := bne_iff_ne.2 (by omega)
            clear hchk hg
            generalize Nat.gcd n.natAbs D = gc at *
            generalize n.natAbs = N at *
            go_enter Try.func38, Try.ntmps38
            go_wp2_with fail
            go_quiet (first | (go_at_call 66; refine Calls.quiet_of_same (A.out _)) | (go_at_call 65; refine Calls.quiet_of (G.out _)))
            go_wp2
            go_ret
            exact ⟨rfl, below_drewN ((Below.refl _ _).alloc (Nat.le_refl _) _) _⟩
end Go.Proofs.Ytbiegbnncnjnmaa.Rat
