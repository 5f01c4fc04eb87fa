/- Layer 8: the reference's Check, Same, Has. -/
import Derived.Test.YtejnmjaclhmelaaPoA
import Derived.Test.YtejnmjaclhmelaaEnc
import Derived.Deep.QuietTactic
import Derived.BigQuiet
set_option linter.unusedVariables false
set_option linter.unusedSimpArgs false
namespace Go.Proofs.Ytejnmjaclhmelaa
open Go.RowKit
namespace Po
/-- Check from the k-th number on. -/
def chkAt (l : List Int) (k : Nat) : Int := chkF (if k = 0 then none else some (l[k - 1]?.getD 0)) (l.drop k)
theorem chkAt_zero (l : List Int) : chk l = chkAt l 0 := by unfold chkAt chk; rw [if_pos rfl, List.drop_zero]
theorem chkAt_end {l : List Int} {k : Nat} (h : ¬ k < l.length) : chkAt l k = 0 := by
  unfold chkAt
  rw [List.drop_eq_nil_of_le (by omega)]
  split <;> rfl
theorem chkAt_step {l : List Int} {k : Nat} (h : k < l.length) : chkAt l k = if okN (l[k]?.getD 0) then (if 0 < k ∧ ¬ l[k - 1]?.getD 0 < l[k]?.getD 0 then 9 else chkAt l (k + 1)) else 2 := by
  unfold chkAt
  rw [List.drop_eq_getElem_cons h, List.getElem?_eq_getElem h]
  simp only [Option.getD_some, Nat.add_sub_cancel, Nat.add_one_ne_zero, if_false, List.getElem?_eq_getElem h]
  by_cases hk : k = 0
  · subst hk
    rw [if_pos rfl, chkF]
    simp
  · rw [if_neg hk, chkF]
    have : 0 < k := by omega
    simp only [this, true_and]
    by_cases h2 : l[k - 1]?.getD 0 < l[k] <;> simp [h2]
theorem chkAt_far {l : List Int} {k : Nat} (h : k < l.length) (h2 : ¬ okN (l[k]?.getD 0)) : chkAt l k = 2 := by rw [chkAt_step h, if_neg h2]
theorem chkAt_low {l : List Int} {k : Nat} (h : k < l.length) (h2 : okN (l[k]?.getD 0)) (h3 : 0 < k) (h4 : ¬ l[k - 1]?.getD 0 < l[k]?.getD 0) : chkAt l k = 9 := by rw [chkAt_step h, if_pos h2, if_pos ⟨h3, h4⟩]
theorem chkAt_go {l : List Int} {k : Nat} (h : k < l.length) (h2 : okN (l[k]?.getD 0)) (h3 : k = 0 ∨ l[k - 1]?.getD 0 < l[k]?.getD 0) : chkAt l k = chkAt l (k + 1) := by
  rw [chkAt_step h, if_pos h2, if_neg]
  rintro ⟨h4, h5⟩
  rcases h3 with h3 | h3
  · omega
  · exact h5 h3
end Po
theorem below_drewP {B : Nat} {a w : World} (h : Below B a w) (n : Nat) : Below B a (w.drewN n) := ⟨h.os, h.tape, h.output, h.size, h.block⟩

set_option maxHeartbeats 2000000 in
set_option maxRecDepth 100000 in
theorem pCheck_any (zs : List Int) (hl : zs.length ≤ 1000000) (sv : Value) (w : World) (hI : IntsAt w.heap.size w sv zs) :
    Calls Try.prog 15 #[sv] w fun e w' => e = .returned (.int .i64 (Po.chk zs)) ∧ Below w.heap.size w w' := by
  obtain ⟨a, cap, rfl, hcx⟩ := hI
  have HX := Lib.hid hcx
  clear hcx
  have HZ := Lib.hid (Po.chkAt_zero zs)
  go_enter Try.func15, Try.ntmps15
  go_wp2
  go_loopw [3] (fun vi wr => ∃ k : Nat, k ≤ zs.length ∧ vi = .int .i64 k ∧ Hid (Po.chk zs = Po.chkAt zs k) ∧ Hid (Below w.heap.size w wr))
    (fun vi _ => zs.length - (intOf vi).toNat)
  case atStart => exact ⟨0, Nat.zero_le _, rfl, HZ, Lib.hid (Below.refl _ _)⟩
  case round =>
    clear HZ
    obtain ⟨k, hk, rfl, HP, HB⟩ := hrel
    by_cases hlt : k < zs.length
    · obtain ⟨b, o, rfl, hb, hc⟩ := HX.out (List.ne_nil_of_length_pos (by omega))
      have hcell := (HB.out.cell (p := ⟨b, o + k, none⟩) (by simp; omega)).trans (hc k hlt)
      have hi : (k : Int) < zs.length := by omega
      have HF := Lib.hid fun h => @Po.chkAt_far zs k hlt h
      have HL := Lib.hid fun h h2 h3 => @Po.chkAt_low zs k hlt h h2 h3
      have HG := Lib.hid fun h h2 => @Po.chkAt_go zs k hlt h h2
      have HC := Lib.hid hc
      clear hc HX
      generalize zs[k]?.getD 0 = x at *
      by_cases h1 : x < 0
      · have HE : Hid (Po.chk zs = 2) := by rw [HP.out]; exact HF.out (by unfold Po.okN; omega)
        clear HF HL HG HC
        go_wp2
        go_ret
        rw [HE.out]
        exact ⟨rfl, HB.out⟩
      · by_cases h2 : 1152921504606846976 < x
        · have HE : Hid (Po.chk zs = 2) := by rw [HP.out]; exact HF.out (by unfold Po.okN Po.top; omega)
          clear HF HL HG HC
          go_wp2
          go_ret
          rw [HE.out]
          exact ⟨rfl, HB.out⟩
        · have hok : Hid (Po.okN x) := by unfold Po.okN Po.top; exact Lib.hid (by omega)
          by_cases hk0 : k = 0
          · have HE : Hid (Po.chk zs = Po.chkAt zs (k + 1)) := by rw [HP.out]; exact HG.out hok.out (.inl hk0)
            have hg : decide (0 < k) = false := by rw [hk0]; rfl
            have hg1 : decide ((0 : Int) < (k : Int)) = false := by rw [hk0]; rfl
            clear HF HL HG HC hk0
            go_wp2
            go_quiet (fail)
            go_wp2
            go_roundw
            case rel => exact ⟨k + 1, by omega, by go_num, HE, below_drewP HB.out _⟩
            case measure => simp [intOf]; omega
          · obtain ⟨m, hm⟩ : ∃ m, k = m + 1 := ⟨k - 1, by omega⟩
            have hml : m < zs.length := by omega
            have hcell2 := (HB.out.cell (p := ⟨b, o + m, none⟩) (by simp; omega)).trans (HC.out m hml)
            have hg : decide (0 < k) = true := by simp; omega
            have hg1 : decide ((0 : Int) < (k : Int)) = true := by simp; omega
            have hw : IntKind.i64.wrap ((k : Int) - 1) = (m : Int) := by rw [IntWalk.i64_in _ (by omega)]; omega
            have hkm : k - 1 = m := by omega
            rw [hkm] at HL HG
            generalize zs[m]?.getD 0 = y at *
            by_cases h3 : x ≤ y
            · have HE : Hid (Po.chk zs = 9) := by rw [HP.out]; exact HL.out hok.out (by omega) (by omega)
              clear HF HL HG HC hk0 hm hkm
              go_wp2
              go_quiet (fail)
              go_wp2
              go_ret
              rw [HE.out]
              exact ⟨rfl, below_drewP HB.out _⟩
            · have HE : Hid (Po.chk zs = Po.chkAt zs (k + 1)) := by rw [HP.out]; exact HG.out hok.out (.inr (by omega))
              clear HF HL HG HC hk0 hm hkm
              go_wp2
              go_quiet (fail)
              go_wp2
              go_roundw
              case rel => exact ⟨k + 1, by omega, by go_num, HE, below_drewP HB.out _⟩
              case measure => simp [intOf]; omega
    · have HE : Hid (Po.chk zs = 0) := by rw [HP.out]; exact Po.chkAt_end hlt
      go_wp2
      go_ret
      rw [HE.out]
      exact ⟨rfl, HB.out⟩
end Go.Proofs.Ytejnmjaclhmelaa
