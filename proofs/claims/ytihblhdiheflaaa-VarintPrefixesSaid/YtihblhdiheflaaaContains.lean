/- slices.ContainsFunc, asked whether a number lies outside the range. -/
import Derived.Test.YtihblhdiheflaaaEnc
namespace Go.Proofs.Ytihblhdiheflaaa
open Go.RowKit

set_option maxHeartbeats 400000 in
theorem outside_yes (z : Int) (w : World) (h : ¬ inR z) : Calls Try.prog 28 #[.int .i64 z] w fun e w' => e = .returned (.bool true) ∧ w = w' := by
  unfold inR at h
  by_cases h1 : z < -1152921504606846976
  · clear h
    go_enter Try.func28, Try.ntmps28
    go_wp2
    go_ret
    exact ⟨rfl, rfl⟩
  · have h2 : 1152921504606846976 < z := by omega
    clear h
    go_enter Try.func28, Try.ntmps28
    go_wp2
    go_ret
    exact ⟨rfl, rfl⟩
set_option maxHeartbeats 400000 in
theorem outside_no (z : Int) (w : World) (h : inR z) : Calls Try.prog 28 #[.int .i64 z] w fun e w' => e = .returned (.bool false) ∧ w = w' := by
  have h1 : ¬ z < -1152921504606846976 := by have := h.1; omega
  have h2 : ¬ 1152921504606846976 < z := by have := h.2; omega
  clear h
  go_enter Try.func28, Try.ntmps28
  go_wp2
  go_ret
  exact ⟨rfl, rfl⟩

/-- The index at which IndexFunc stops. -/
def Found (n : Nat) (w : World) (e : Ending) (w' : World) : Prop := ∃ k : Nat, k < n ∧ e = .returned (.int .i64 k) ∧ w = w'

set_option maxHeartbeats 1000000 in
set_option maxRecDepth 100000 in
theorem index_any (zs : List Int) (hl : zs.length ≤ 50) (hz : ¬ ∀ z ∈ zs, inR z) (sv : Value) (w : World) (hI : IntsAt w.heap.size w sv zs) :
    Calls Try.prog 39 #[sv, .func (.func 28) #[] #[]] w (Found zs.length w) := by
  obtain ⟨a, cap, rfl, hc⟩ := hI
  have HC := Lib.hid hc
  have HZ := Lib.hid hz
  clear hc hz
  go_enter Try.func39, Try.ntmps39
  go_wp2
  go_loop [8] (fun vi => ∃ k : Nat, k ≤ zs.length ∧ vi = .int .i64 k ∧ Hid (∀ z ∈ zs.take k, inR z)) (fun vi => zs.length - (intOf vi).toNat)
  case atStart => exact ⟨0, Nat.zero_le _, rfl, by intro z hz; simp at hz⟩
  case round =>
    obtain ⟨k, hk, rfl, HP⟩ := hrel
    by_cases hlt : k < zs.length
    · obtain ⟨b, off, rfl, hbl, hcj⟩ := HC.out (List.ne_nil_of_length_pos (by omega))
      have hcell := hcj k hlt
      have HT := Lib.hid (take_snoc zs k hlt)
      generalize zs[k]?.getD 0 = z at *
      clear hcj HC
      by_cases hz : inR z
      · have Hz := Lib.hid hz
        clear hz
        go_wp2_with fail
        refine (outside_no z _ Hz.out).mono ?_
        rintro e w' ⟨rfl, rfl⟩
        go_wp2
        go_round
        case rel =>
          refine ⟨k + 1, by omega, by go_num, ?_⟩
          show ∀ z ∈ zs.take (k + 1), inR z
          rw [HT.out]
          intro y hy
          rcases List.mem_append.1 hy with hy | hy
          · exact HP.out y hy
          · simp at hy; subst hy; exact Hz.out
        case measure => simp [intOf]; omega
      · have Hz := Lib.hid hz
        clear hz
        go_wp2_with fail
        refine (outside_yes z _ Hz.out).mono ?_
        rintro e w' ⟨rfl, rfl⟩
        go_wp2
        go_ret
        exact ⟨k, hlt, rfl, rfl⟩
    · exfalso
      have h := HP.out
      rw [List.take_of_length_le (by omega)] at h
      exact HZ.out h

set_option maxHeartbeats 400000 in
theorem contains_any (zs : List Int) (hl : zs.length ≤ 50) (hz : ¬ ∀ z ∈ zs, inR z) (sv : Value) (w : World) (hI : IntsAt w.heap.size w sv zs) :
    Calls Try.prog 27 #[sv, .func (.func 28) #[] #[]] w fun e w' => e = .returned (.bool true) ∧ w = w' := by
  have HZ := Lib.hid hz
  have HI := Lib.hid hI
  clear hz hI
  go_enter Try.func27, Try.ntmps27
  go_wp2_with fail
  refine (index_any zs hl HZ.out sv _ HI.out).mono ?_
  rintro e w' ⟨k, hk, rfl, rfl⟩
  go_wp2
  go_ret
  exact ⟨rfl, rfl⟩
end Go.Proofs.Ytihblhdiheflaaa
