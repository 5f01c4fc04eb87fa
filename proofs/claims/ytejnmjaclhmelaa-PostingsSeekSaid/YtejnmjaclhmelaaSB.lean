/- Layer 8: the program's Check, isInvalid, first. -/
import Derived.Test.YtejnmjaclhmelaaSA
set_option linter.unusedVariables false
set_option linter.unusedSimpArgs false
namespace Go.Proofs.Ytejnmjaclhmelaa.Po
open Go.RowKit
def befI (l : List Int) (k : Nat) : Int := if k = 0 then -1 else l[k - 1]?.getD 0
theorem chk_low {l : List Int} {k : Nat} (h : k < l.length) (h2 : okN (l[k]?.getD 0)) (h4 : l[k]?.getD 0 ≤ befI l k) : chkAt l k = 9 := by
  unfold befI at h4
  by_cases h0 : k = 0
  · rw [if_pos h0] at h4
    have := h2.1
    omega
  · rw [if_neg h0] at h4
    exact chkAt_low h h2 (by omega) (by omega)
theorem chk_go {l : List Int} {k : Nat} (h : k < l.length) (h2 : okN (l[k]?.getD 0)) (h4 : befI l k < l[k]?.getD 0) : chkAt l k = chkAt l (k + 1) := by
  unfold befI at h4
  by_cases h0 : k = 0
  · exact chkAt_go h h2 (.inl h0)
  · rw [if_neg h0] at h4
    exact chkAt_go h h2 (.inr h4)
theorem bef_next (l : List Int) (k : Nat) : befI l (k + 1) = l[k]?.getD 0 := by unfold befI; rw [if_neg (by omega), Nat.add_sub_cancel]

set_option maxHeartbeats 2000000 in
set_option maxRecDepth 100000 in
theorem gCheck_any (zs : List Int) (hl : zs.length ≤ 1000000) (sv : Value) (w : World) (hI0 : Ints w.heap.size w sv zs) :
    Calls Try.prog 14 #[sv] w fun e w' => e = .returned (.int .i64 (chk zs)) ∧ Below w.heap.size w w' := by
  have hI := hI0.at
  obtain ⟨a, cap, rfl, hcx⟩ := hI
  have HX := Lib.hid hcx
  clear hcx hI0
  have HZ := Lib.hid (chkAt_zero zs)
  go_enter Try.func14, Try.ntmps14
  go_wp2
  go_loopw [3, 8] (fun vb vi wr => ∃ (k : Nat) (y : Int), k ≤ zs.length ∧ vi = .int .i64 k ∧ vb = .int .i64 y ∧ Hid (y = befI zs k) ∧ Hid (chk zs = chkAt zs k) ∧ Hid (Below w.heap.size w wr))
    (fun _ vi _ => zs.length - (intOf vi).toNat)
  case atStart => exact ⟨0, -1, Nat.zero_le _, rfl, rfl, Lib.hid rfl, HZ, Lib.hid (Below.refl _ _)⟩
  case round =>
    clear HZ
    obtain ⟨k, y, hk, rfl, rfl, HY, HP, HB⟩ := hrel
    by_cases hlt : k < zs.length
    · obtain ⟨b, o, rfl, hb, hc⟩ := HX.out (List.ne_nil_of_length_pos (by omega))
      have hcell := (HB.out.cell (p := ⟨b, o + k, none⟩) (by simp; omega)).trans (hc k hlt)
      have hi : (k : Int) < zs.length := by omega
      have HF := Lib.hid fun h => @chkAt_far zs k hlt h
      have HL := Lib.hid fun h h2 => @chk_low zs k hlt h (by rw [← HY.out]; exact h2)
      have HG := Lib.hid fun h h2 => @chk_go zs k hlt h (by rw [← HY.out]; exact h2)
      have HN := Lib.hid (bef_next zs k)
      clear hc HX HY
      generalize zs[k]?.getD 0 = x at *
      by_cases h1 : x < 0
      · have HE : Hid (chk zs = 2) := by rw [HP.out]; exact HF.out (by unfold okN; omega)
        clear HF HL HG
        go_wp2
        go_ret
        rw [HE.out]
        exact ⟨rfl, HB.out⟩
      · by_cases h2 : 1152921504606846976 < x
        · have HE : Hid (chk zs = 2) := by rw [HP.out]; exact HF.out (by unfold okN top; omega)
          clear HF HL HG
          go_wp2
          go_ret
          rw [HE.out]
          exact ⟨rfl, HB.out⟩
        · have hok : Hid (okN x) := by unfold okN top; exact Lib.hid (by omega)
          by_cases h3 : x ≤ y
          · have HE : Hid (chk zs = 9) := by rw [HP.out]; exact HL.out hok.out h3
            clear HF HL HG
            go_wp2
            go_ret
            rw [HE.out]
            exact ⟨rfl, HB.out⟩
          · have HE : Hid (chk zs = chkAt zs (k + 1)) := by rw [HP.out]; exact HG.out hok.out (by omega)
            clear HF HL HG
            go_wp2
            go_roundw
            case rel => exact ⟨k + 1, x, by omega, by go_num, rfl, Lib.hid HN.out.symm, HE, HB⟩
            case measure => simp [intOf]; omega
    · have HE : Hid (chk zs = 0) := by rw [HP.out]; exact chkAt_end hlt
      go_wp2
      go_ret
      rw [HE.out]
      exact ⟨rfl, HB.out⟩

set_option maxHeartbeats 1000000 in
theorem gInvalid_any (zs : List Int) (hl : zs.length ≤ 1000000) (sv : Value) (w : World) (hI : Ints w.heap.size w sv zs) :
    Calls Try.prog 42 #[sv] w fun e w' => e = .returned (.bool (chk zs != 0)) ∧ Below w.heap.size w w' := by
  have HM := Lib.hid (gCheck_any zs hl sv w hI)
  obtain ⟨a, ca, rfl, _⟩ := hI
  generalize chk zs = c at *
  go_enter Try.func42, Try.ntmps42
  go_wp2_with (go_at_call 14; (with_reducible refine HM.out.mono ?_); rintro e w4 ⟨rfl, hb4⟩; have B4 := Lib.hid hb4; clear hb4)
  go_ret
  exact ⟨rfl, B4.out⟩

set_option maxHeartbeats 1000000 in
theorem first_any (zs : List Int) (B : Nat) (sv : Value) (w : World) (hI : Ints B w sv zs) :
    Calls Try.prog 68 #[sv] w fun e w' => e = .returned (.int .i64 (hdI zs)) ∧ w = w' := by
  have hI2 := hI.at
  obtain ⟨a, cap, rfl, hcx⟩ := hI2
  clear hI
  cases zs with
  | nil =>
    clear hcx
    go_enter Try.func68, Try.ntmps68
    go_wp2
    go_ret
    exact ⟨rfl, rfl⟩
  | cons x zs =>
    obtain ⟨b, o, rfl, hb, hc⟩ := hcx (by simp)
    have hcell := hc 0 (by simp)
    simp only [List.getElem?_cons_zero, Option.getD_some, Nat.add_zero] at hcell
    have hn : (((x :: zs).length : Int) == 0) = false := by simp <;> omega
    have hp : (0 : Int) < ((x :: zs).length : Int) := by simp <;> omega
    have he : hdI (x :: zs) = x := rfl
    rw [he]
    generalize (x :: zs).length = n at *
    clear hc hcx
    go_enter Try.func68, Try.ntmps68
    go_wp2
    go_ret
    exact ⟨rfl, rfl⟩
end Go.Proofs.Ytejnmjaclhmelaa.Po
