/- Layer 11: the reference's Resets and Increase. -/
import Derived.Test.YtobipbedkkmlcaaSrR
set_option linter.unusedVariables false
set_option linter.unusedSimpArgs false
namespace Go.Proofs.Ytobipbedkkmlcaa.Sr
open Go.RowKit
theorem rst_high : ∀ l : List S, rstF l ≤ l.length
  | [] => Nat.le_refl _
  | [x] => by rw [rst_one]; simp
  | x :: y :: r => by
    have ih := rst_high (y :: r)
    rw [rst_cons]
    simp only [List.length_cons] at ih ⊢
    split <;> omega
theorem inc_first (l : List S) : Hid ((0 : Int) = incF (l.take 1)) := by
  cases l with
  | nil => rfl
  | cons x r => exact (inc_one x).symm
theorem rst_first (l : List S) : Hid (0 = rstF (l.take 1)) := by
  cases l with
  | nil => rfl
  | cons x r => exact (rst_one x).symm
theorem step_far {a b : Int} (ha : 0 ≤ a ∧ a ≤ 1099511627776) (hb : 0 ≤ b ∧ b ≤ 1099511627776) : 0 ≤ step a b ∧ step a b ≤ 1099511627776 := by
  unfold step
  split <;> omega
theorem chk_kinds {l : List S} (h : chk 2 l = 0) : ∀ x ∈ l, 0 ≤ x.2 ∧ x.2 ≤ 1099511627776 := fun x hx => by
  have h1 := (chk_two.1 h).2.1 x hx
  exact ⟨h1.2 rfl, (okS_iff.1 h1.1).2.2.2⟩
set_option maxHeartbeats 2000000 in
theorem resets_any (l : List S) (hl : l.length ≤ 100000) (A : Option Addr) (c : Nat) (w : World) (hL : LS w w.heap.size A l) :
    Calls Try.prog 20 #[.slice A l.length c] w fun e w' => e = .returned (.int .i64 (rstO l)) ∧ Below w.heap.size w w' := by
  have HL := Lib.hid hL
  have C := Lib.hid (check_any 2 l hl A c w hL)
  clear hL
  by_cases hc : chk 2 l ≠ 0
  · have hc2 : ((chk 2 l : Int) != 0) = true := by simp; omega
    have HE : Hid (rstO l = 0) := if_pos hc
    clear hc
    go_enter Try.func20, Try.ntmps20
    go_wp2_with (go_at_call 13; (with_reducible refine C.out.mono ?_); rintro e w1 ⟨rfl, hb1⟩; have HB1 := Lib.hid hb1; clear hb1)
    go_ret
    rw [HE.out]
    exact ⟨rfl, HB1.out⟩
  · have hc : chk 2 l = 0 := by omega
    have HK := Lib.hid (chk_kinds hc)
    have HE : Hid (rstO l = rstF l) := if_neg (by omega)
    have hln := (chk_two.1 hc).1
    rw [hc] at C
    clear hc
    go_enter Try.func20, Try.ntmps20
    go_wp2_with (go_at_call 13; (with_reducible refine C.out.mono ?_); rintro e w1 ⟨rfl, hb1⟩; have HB1 := Lib.hid hb1; clear hb1)
    go_loopw [3, 4] (fun n i wr => ∃ k : Nat, ∃ s : Nat, 1 ≤ k ∧ (k ≤ l.length ∨ k = 1) ∧ i = .int .i64 k ∧ n = .int .i64 s ∧ Hid (s = rstF (l.take k)) ∧ Hid (Below w.heap.size w wr)) (fun _ i _ => l.length + 1 - (intOf i).toNat)
    case atStart => exact ⟨1, 0, by omega, .inr rfl, rfl, rfl, rst_first l, HB1⟩
    case round =>
      obtain ⟨k, s, hk1, hk, rfl, rfl, H, HB⟩ := hrel
      by_cases hlt : k < l.length
      · obtain ⟨m, hm⟩ : ∃ m, k = m + 1 := ⟨k - 1, by omega⟩
        have hml : m < l.length := by omega
        obtain ⟨b, off, rfl, hb, _, h2'⟩ := HL.out.at_ hlt
        have h2 := (HB.out.cell (p := ⟨b, off + k * 2 + 1, none⟩) hb).trans h2'
        obtain ⟨b', off', hbo, _, _, hp'⟩ := HL.out.at_ hml
        obtain ⟨rfl, rfl⟩ : b = b' ∧ off = off' := by simpa using hbo
        have hp := (HB.out.cell (p := ⟨b, off + m * 2 + 1, none⟩) hb).trans hp'
        clear hbo hp' h2'
        have hw : IntKind.i64.wrap ((k : Int) - 1) = (m : Int) := by rw [IntWalk.i64_in _ (by omega)]; omega
        have v1 := HK.out l[k] (List.getElem_mem hlt)
        have v2 := HK.out l[m] (List.getElem_mem hml)
        have HI := Lib.hid (inc_round (l := l) (k := m) (by omega))
        have HH := Lib.hid (rst_high (l.take k))
        by_cases hb2 : l[k].2 < l[m].2
        · have hs : wrap64 ((s : Int) + 1) = ((s + 1 : Nat) : Int) := by
            have h1 := H.out
            have h2 := HH.out
            have h3 := List.length_take_le k l
            rw [w64 (by omega)]
            rfl
          have HN : Hid (s + 1 = rstF (l.take (k + 1))) := by
            subst hm
            have h1 := HI.out.2
            rw [if_pos hb2] at h1
            rw [h1, ← H.out]
            exact rfl
          clear HI HH H hm
          go_wp2
          go_quiet (fail)
          go_wp2
          go_roundw
          case rel => exact ⟨k + 1, s + 1, by omega, by omega, by go_num, by go_num, HN, below_drewN HB.out _⟩
          case measure => simp [intOf]; omega
        · have HN : Hid (s = rstF (l.take (k + 1))) := by
            subst hm
            have h1 := HI.out.2
            rw [if_neg hb2] at h1
            have h2 := H.out
            rw [h1, ← h2, Nat.add_zero]
            exact rfl
          clear HI HH H hm
          go_wp2
          go_quiet (fail)
          go_wp2
          go_roundw
          case rel => exact ⟨k + 1, s, by omega, by omega, by go_num, rfl, HN, below_drewN HB.out _⟩
          case measure => simp [intOf]; omega
      · have HT : Hid (l.take k = l) := List.take_of_length_le (by omega)
        have hge : ¬ ((k : Int) < (l.length : Int)) := by omega
        go_wp2
        go_ret
        rw [HE.out, H.out, HT.out]
        exact ⟨rfl, HB.out⟩
set_option maxHeartbeats 2000000 in
theorem increase_any (l : List S) (hl : l.length ≤ 100000) (A : Option Addr) (c : Nat) (w : World) (hL : LS w w.heap.size A l) :
    Calls Try.prog 18 #[.slice A l.length c] w fun e w' => e = .returned (.int .i64 (incO l)) ∧ Below w.heap.size w w' := by
  have HL := Lib.hid hL
  have C := Lib.hid (check_any 2 l hl A c w hL)
  clear hL
  by_cases hc : chk 2 l ≠ 0
  · have hc2 : ((chk 2 l : Int) != 0) = true := by simp; omega
    have HE : Hid (incO l = 0) := if_pos hc
    clear hc
    go_enter Try.func18, Try.ntmps18
    go_wp2_with (go_at_call 13; (with_reducible refine C.out.mono ?_); rintro e w1 ⟨rfl, hb1⟩; have HB1 := Lib.hid hb1; clear hb1)
    go_ret
    rw [HE.out]
    exact ⟨rfl, HB1.out⟩
  · have hc : chk 2 l = 0 := by omega
    have HK := Lib.hid (chk_kinds hc)
    have HE : Hid (incO l = incF l) := if_neg (by omega)
    have hln := (chk_two.1 hc).1
    rw [hc] at C
    clear hc
    go_enter Try.func18, Try.ntmps18
    go_wp2_with (go_at_call 13; (with_reducible refine C.out.mono ?_); rintro e w1 ⟨rfl, hb1⟩; have HB1 := Lib.hid hb1; clear hb1)
    go_loopw [3, 4] (fun n i wr => ∃ k : Nat, ∃ s : Int, 1 ≤ k ∧ (k ≤ l.length ∨ k = 1) ∧ i = .int .i64 k ∧ n = .int .i64 s ∧ Hid (s = incF (l.take k)) ∧ Hid (Below w.heap.size w wr)) (fun _ i _ => l.length + 1 - (intOf i).toNat)
    case atStart => exact ⟨1, 0, by omega, .inr rfl, rfl, rfl, inc_first l, HB1⟩
    case round =>
      obtain ⟨k, s, hk1, hk, rfl, rfl, H, HB⟩ := hrel
      by_cases hlt : k < l.length
      · obtain ⟨m, hm⟩ : ∃ m, k = m + 1 := ⟨k - 1, by omega⟩
        have hml : m < l.length := by omega
        obtain ⟨b, off, rfl, hb, _, h2'⟩ := HL.out.at_ hlt
        have h2 := (HB.out.cell (p := ⟨b, off + k * 2 + 1, none⟩) hb).trans h2'
        obtain ⟨b', off', hbo, _, _, hp'⟩ := HL.out.at_ hml
        obtain ⟨rfl, rfl⟩ : b = b' ∧ off = off' := by simpa using hbo
        have hp := (HB.out.cell (p := ⟨b, off + m * 2 + 1, none⟩) hb).trans hp'
        clear hbo hp' h2'
        have hw : IntKind.i64.wrap ((k : Int) - 1) = (m : Int) := by rw [IntWalk.i64_in _ (by omega)]; omega
        have v1 := HK.out l[k] (List.getElem_mem hlt)
        have v2 := HK.out l[m] (List.getElem_mem hml)
        have HI := Lib.hid (inc_round (l := l) (k := m) (by omega))
        have HH := Lib.hid (inc_high (l := l.take k) fun z hz => HK.out z (List.mem_of_mem_take hz))
        have hf := step_far v2 v1
        have hs : wrap64 (s + step l[m].2 l[k].2) = s + step l[m].2 l[k].2 := by
          have h1 := H.out
          have h2 := HH.out
          have h3 := List.length_take_le k l
          exact w64 (by omega)
        have HN : Hid (s + step l[m].2 l[k].2 = incF (l.take (k + 1))) := by
          subst hm
          rw [HI.out.1, ← H.out]
          exact rfl
        have CS := Lib.hid (step_any l[m].2 l[k].2 v2 v1)
        clear HI HH H hm hf v1 v2
        go_wp2
        go_region_with (go_at_call 38; (with_reducible refine (CS.out _).mono ?_); rintro e w1 ⟨rfl, rfl⟩)
        all_goals
          go_wp2
          go_roundw
          case rel => exact ⟨k + 1, s + step l[m].2 l[k].2, by omega, by omega, by go_num, by rw [hs], HN, below_drewN HB.out _⟩
          case measure => simp [intOf]; omega
      · have HT : Hid (l.take k = l) := List.take_of_length_le (by omega)
        have hge : ¬ ((k : Int) < (l.length : Int)) := by omega
        go_wp2
        go_ret
        rw [HE.out, H.out, HT.out]
        exact ⟨rfl, HB.out⟩
end Go.Proofs.Ytobipbedkkmlcaa.Sr
