/- Layer 8: the laws' great and awake. -/
import Derived.Test.YtejnmjaclhmelaaPJ
set_option linter.unusedVariables false
set_option linter.unusedSimpArgs false
namespace Go.Proofs.Ytejnmjaclhmelaa.Po
open Go.RowKit
def bigL (l : List Int) : Bool := decide (40 < l.length)
theorem bigL_yes {l : List Int} (h : 40 < l.length) : bigL l = true := decide_eq_true h
theorem bigL_no {l : List Int} (h : ¬ 40 < l.length) : bigL l = false := decide_eq_false h
/-- Whether lists are longer than the statements examine. -/
def greatB (ls : List (List Int)) : Bool := decide (8 < ls.length) || ls.any bigL
theorem great_no {ls : List (List Int)} (h : greatB ls = false) : ls.length ≤ 8 ∧ ∀ l ∈ ls, l.length ≤ 40 := by
  unfold greatB at h
  rw [Bool.or_eq_false_iff, decide_eq_false_iff_not, List.any_eq_false] at h
  refine ⟨by omega, fun l hl => ?_⟩
  have h2 := h.2 l hl
  unfold bigL at h2
  simpa using h2
theorem great_tot {ls : List (List Int)} (h : greatB ls = false) : tot ls ≤ 320 := by
  obtain ⟨h1, h2⟩ := great_no h
  have key : ∀ ls : List (List Int), (∀ l ∈ ls, l.length ≤ 40) → tot ls ≤ 40 * ls.length := by
    intro ls
    induction ls with
    | nil => intro _; simp [tot]
    | cons l ls ih =>
      intro h
      have h3 := ih fun m hm => h m (List.mem_cons_of_mem _ hm)
      have h4 := h l (List.mem_cons_self ..)
      rw [tot_cons, List.length_cons]
      omega
  have := key ls h2
  omega
theorem great1_any (l : List Int) (sv : Value) (w : World) (hI : Ints w.heap.size w sv l) : Calls Try.prog 37 #[sv] w fun e w' => e = .returned (.bool (bigL l)) ∧ w = w' := by
  obtain ⟨a, cap, rfl, h⟩ := hI
  go_enter Try.func37, Try.ntmps37
  go_wp2
  go_ret
  exact ⟨ret_bool (by unfold bigL; exact decide_eq_decide.2 (by omega)), rfl⟩
def FoundB (ls : List (List Int)) (k : Int) : Prop := 0 ≤ k ↔ ls.any bigL = true
theorem FoundB.yes {ls : List (List Int)} {k : Nat} {l : List Int} (h : l ∈ ls) (h2 : bigL l = true) : FoundB ls (k : Int) := ⟨fun _ => List.any_eq_true.2 ⟨_, h, h2⟩, fun _ => by omega⟩
theorem FoundB.no {ls : List (List Int)} (h : ls.any bigL = false) : FoundB ls (-1) := ⟨fun h => absurd h (by decide), fun h2 => by rw [h] at h2; cases h2⟩
set_option maxHeartbeats 2000000 in
set_option maxRecDepth 100000 in
theorem gIndex_any (ls : List (List Int)) (hn : ls.length ≤ 1000000) (sv : Value) (w : World) (hI : IntsL w.heap.size w sv ls) :
    Calls Try.prog 52 #[sv, .func (.func 37) #[] #[]] w fun e w' => (∃ k : Int, e = .returned (.int .i64 k) ∧ FoundB ls k ∧ -1 ≤ k) ∧ w = w' := by
  obtain ⟨a, cap, rfl, V, h1, h2⟩ := hI
  have HC := Lib.hid h1
  have CG : Hid (∀ j, j < ls.length → Calls Try.prog 37 #[V j] w fun e w' => e = .returned (.bool (bigL (ls[j]?.getD []))) ∧ w = w') := Lib.hid fun j hj => great1_any _ (V j) w (h2 j hj)
  clear h1 h2
  go_enter Try.func52, Try.ntmps52
  go_wp2
  go_loop [8] (fun vi => ∃ k : Nat, k ≤ ls.length ∧ vi = .int .i64 k ∧ Hid (∀ l ∈ ls.take k, bigL l = false)) (fun vi => ls.length - (intOf vi).toNat)
  case atStart => exact ⟨0, Nat.zero_le _, rfl, Lib.hid (by simp)⟩
  case round =>
    obtain ⟨k, hk, rfl, HP⟩ := hrel
    by_cases hlt : k < ls.length
    · obtain ⟨b, o, rfl, hb, hc⟩ := HC.out (by omega)
      have hcell := hc k hlt
      have hi' : (k : Int) < ls.length := by omega
      have HG := Lib.hid (CG.out k hlt)
      have HM := Lib.hid (at_memL hlt)
      have HT : Hid (ls.take (k + 1) = ls.take k ++ [ls[k]?.getD []]) := Lib.hid (by rw [List.take_add_one, List.getElem?_eq_getElem hlt]; rfl)
      clear hc
      generalize V k = vk at *
      cases hz : bigL (ls[k]?.getD []) with
      | false =>
        have HZ := Lib.hid hz
        rw [hz] at HG
        clear hz
        go_wp2_with (go_at_call 37; (with_reducible refine HG.out.mono ?_); rintro e w1 ⟨rfl, rfl⟩)
        go_round
        case rel => exact ⟨k + 1, by omega, by go_num, Lib.hid (by rw [HT.out]; intro l hl; rcases List.mem_append.1 hl with hl | hl; exact HP.out l hl; rw [List.mem_singleton] at hl; rw [hl]; exact HZ.out)⟩
        case measure => simp [intOf]; omega
      | true =>
        have HZ := Lib.hid hz
        rw [hz] at HG
        clear hz
        go_wp2_with (go_at_call 37; (with_reducible refine HG.out.mono ?_); rintro e w1 ⟨rfl, rfl⟩)
        go_ret
        exact ⟨⟨k, rfl, FoundB.yes HM.out HZ.out, by omega⟩, rfl⟩
    · have HA : Hid (ls.any bigL = false) := by
        have h := HP.out
        rw [List.take_of_length_le (by omega)] at h
        exact Lib.hid (List.any_eq_false.2 fun l hl => by rw [h l hl]; simp)
      go_wp2
      go_ret
      exact ⟨⟨-1, rfl, FoundB.no HA.out, by decide⟩, rfl⟩
set_option maxHeartbeats 2000000 in
theorem gContains_any (ls : List (List Int)) (hn : ls.length ≤ 1000000) (sv : Value) (w : World) (hI : IntsL w.heap.size w sv ls) :
    Calls Try.prog 33 #[sv, .func (.func 37) #[] #[]] w fun e w' => e = .returned (.bool (ls.any bigL)) ∧ w = w' := by
  have HM := Lib.hid (gIndex_any ls hn sv w hI)
  obtain ⟨a, ca, rfl, _⟩ := hI
  go_enter Try.func33, Try.ntmps33
  go_wp2_with (go_at_call 52; (with_reducible refine HM.out.mono ?_); rintro e w4 ⟨⟨k, rfl, hk, hk1⟩, rfl⟩)
  have HK := Lib.hid hk
  clear hk
  go_wp2
  go_ret
  exact ⟨ret_bool (Bool.eq_iff_iff.2 (by rw [decide_eq_true_iff]; exact HK.out)), rfl⟩
set_option maxHeartbeats 2000000 in
theorem great_any (ls : List (List Int)) (hn : ls.length ≤ maxLen) (sv : Value) (w : World) (hI : IntsL w.heap.size w sv ls) :
    Calls Try.prog 12 #[sv] w fun e w' => e = .returned (.bool (greatB ls)) ∧ w = w' := by
  by_cases h8 : 8 < ls.length
  · obtain ⟨a, ca, rfl, _⟩ := hI
    have HE : Hid (greatB ls = true) := Lib.hid (by unfold greatB; rw [decide_eq_true h8]; rfl)
    go_enter Try.func12, Try.ntmps12
    go_wp2
    go_ret
    exact ⟨ret_bool (by rw [HE.out]), rfl⟩
  · have HM := Lib.hid (gContains_any ls (by omega) sv w hI)
    obtain ⟨a, ca, rfl, _⟩ := hI
    have HE : Hid (greatB ls = ls.any bigL) := Lib.hid (by unfold greatB; rw [decide_eq_false h8]; rfl)
    generalize ls.any bigL = q at *
    go_enter Try.func12, Try.ntmps12
    have h8' : ¬ (8 : Int) < ls.length := by omega
    go_wp2_with (go_at_call 33; (with_reducible refine HM.out.mono ?_); rintro e w1 ⟨rfl, rfl⟩)
    go_ret
    exact ⟨ret_bool (by rw [HE.out]), rfl⟩
end Go.Proofs.Ytejnmjaclhmelaa.Po
