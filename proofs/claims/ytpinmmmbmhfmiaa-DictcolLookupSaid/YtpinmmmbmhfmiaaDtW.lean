/- Layer 10: slices.IsSorted; where the strings of a column stand, all together. -/
import Derived.Deep.QuietTactic
import Derived.BigQuiet
import Derived.Test.YtpinmmmbmhfmiaaDtV
set_option linter.unusedVariables false
set_option linter.unusedSimpArgs false
namespace Go.Proofs.Ytpinmmmbmhfmiaa.Dt
open Go.RowKit Go.Sort Dc
theorem less_same (x y : Int) (w : World) : Calls Try.prog 46 #[.int .i64 x, .int .i64 y] w fun e w' => e = .returned (.bool (decide (x < y))) ∧ w' = w := (less_any x y w).mono fun e w' h => ⟨h.1, h.2.symm⟩
set_option maxHeartbeats 1000000 in
set_option maxRecDepth 100000 in
theorem sorted_is (l : List Int) (hl : l.length ≤ 1000000) (hp : 0 < l.length) (hs : l.Pairwise (· ≤ ·)) (sv : Value) (w : World) (hI : IntsAt w.heap.size w sv l) :
    Calls Try.prog 31 #[sv] w fun e w' => e = .returned (.bool true) ∧ Below w.heap.size w w' := by
  obtain ⟨a, cap, rfl, hcx⟩ := hI
  obtain ⟨b, o, rfl, hb, hc⟩ := hcx (List.ne_nil_of_length_pos hp)
  have HX := Lib.hid hc
  have HS := Lib.hid (List.pairwise_iff_getElem.1 hs)
  obtain ⟨n, hn⟩ : ∃ n, l.length = n + 1 := ⟨l.length - 1, by omega⟩
  have hlw : IntKind.i64.wrap ((l.length : Int) - 1) = (n : Int) := by rw [IntWalk.i64_in _ (by omega)]; omega
  have HNN := Lib.hid hn
  have hlw2 : IntKind.i64.wrap (((n + 1 : Nat) : Int) - 1) = (n : Int) := by rw [← hn]; exact hlw
  clear hcx hc hs
  go_enter Try.func31, Try.ntmps31
  clear hn
  go_wp2
  go_loopw [3] (fun vi wr => ∃ k : Nat, k < l.length ∧ vi = .int .i64 k ∧ Hid (Below w.heap.size w wr)) (fun vi _ => (intOf vi).toNat)
  case atStart => exact ⟨n, by have := HNN.out; omega, rfl, Lib.hid (Below.refl _ _)⟩
  case round =>
    obtain ⟨k, hk, rfl, HB⟩ := hrel
    by_cases h0 : k = 0
    · subst h0
      go_wp2
      go_ret
      exact ⟨rfl, HB.out⟩
    · obtain ⟨q, rfl⟩ : ∃ q, k = q + 1 := ⟨k - 1, by omega⟩
      have hc1 := (HB.out.cell (p := ⟨b, o + (q + 1), none⟩) hb).trans (HX.out (q + 1) hk)
      have hql : q < l.length := by omega
      have hc2 := (HB.out.cell (p := ⟨b, o + q, none⟩) hb).trans (HX.out q hql)
      rw [List.getElem?_eq_getElem hk] at hc1
      rw [List.getElem?_eq_getElem hql] at hc2
      have hle := HS.out q (q + 1) hql hk (by omega)
      have hc1 : wr.cell? ⟨b, o + (q + 1), none⟩ = some (.int .i64 l[q + 1]) := hc1
      have hc2 : wr.cell? ⟨b, o + q, none⟩ = some (.int .i64 l[q]) := hc2
      have hlt : decide (l[q + 1] < l[q]) = false := decide_eq_false (by omega)
      have hnl : ¬ l[q + 1] < l[q] := by omega
      have hkp : (0 : Int) < ((q + 1 : Nat) : Int) := by omega
      have hki : ((q + 1 : Nat) : Int) < l.length := Int.ofNat_lt.2 hk
      have hqi : (q : Int) < l.length := Int.ofNat_lt.2 hql
      have hkw : IntKind.i64.wrap (((q + 1 : Nat) : Int) - 1) = (q : Int) := by rw [IntWalk.i64_in _ (by omega)]; omega
      generalize l[q + 1] = x at *
      generalize l[q] = y at *
      obtain ⟨k, hkk⟩ : ∃ k, q + 1 = k := ⟨_, rfl⟩
      rw [hkk] at hk hkp hki hkw hc1 ⊢
      have HKK := Lib.hid hkk
      clear hkk h0 hle hlw hlw2
      go_wp2
      go_quiet (first | (go_at_call 46; exact Calls.quiet_of_same (less_same _ _ _)))
      go_wp2
      go_roundw
      case rel => exact ⟨q, hql, by go_num, Lib.hid (below_drewP HB.out _)⟩
      case measure => have := HKK.out; simp [intOf]; omega
end Go.Proofs.Ytpinmmmbmhfmiaa.Dt
