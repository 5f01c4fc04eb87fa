/- Layer 11: the reference's Check and Valid. -/
import Derived.Deep.QuietTactic
import Derived.BigQuiet
import Derived.Test.YtobipbedkkmlcaaSrP
set_option linter.unusedVariables false
set_option linter.unusedSimpArgs false
namespace Go.Proofs.Ytobipbedkkmlcaa.Sr
open Go.RowKit
def prevT (l : List S) : Nat → Option Int
  | 0 => none
  | k + 1 => l[k]?.map Prod.fst
theorem prevT_zero {l : List S} {k : Nat} (h : k = 0) : prevT l k = none := by subst h; rfl
theorem prevT_at {l : List S} {m : Nat} (h : m < l.length) : prevT l (m + 1) = some l[m].1 := by
  simp only [prevT, List.getElem?_eq_getElem h, Option.map_some]
theorem below_drewN {B : Nat} {a w : World} (h : Below B a w) (n : Nat) : Below B a (w.drewN n) := ⟨h.os, h.tape, h.output, h.size, h.block⟩
def badS (c : Bool) (x : S) : Bool := !okS x || (c && decide (x.2 < 0))
def Chk (c : Bool) (l : List S) (k : Nat) : Prop := chkF c none l = chkF c (prevT l k) (l.drop k)
theorem Chk.start (c : Bool) (l : List S) : Chk c l 0 := rfl
theorem Chk.done {c : Bool} {l : List S} (h : Chk c l l.length) : chkF c none l = 0 := by
  unfold Chk at h
  rw [h, List.drop_of_length_le (Nat.le_refl _)]
  cases prevT l l.length <;> rfl
theorem Chk.bad {c : Bool} {l : List S} {k : Nat} (h : Chk c l k) (hk : k < l.length) (hb : badS c l[k] = true) : chkF c none l = 2 := by
  unfold Chk at h
  rw [h, List.drop_eq_getElem_cons hk]
  unfold chkF
  exact if_pos hb
theorem Chk.order {c : Bool} {l : List S} {k m : Nat} (h : Chk c l k) (hk : k < l.length) (hb : badS c l[k] = false) (hm : k = m + 1) (ho : l[k].1 ≤ (l[m]'(by omega)).1) : chkF c none l = 9 := by
  subst hm
  unfold Chk at h
  rw [h, prevT_at (by omega), List.drop_eq_getElem_cons hk]
  unfold chkF
  unfold badS at hb
  rw [if_neg (by rw [hb]; decide), if_pos (by simpa using ho)]
theorem Chk.first {c : Bool} {l : List S} {k : Nat} (h : Chk c l k) (hk : k < l.length) (hb : badS c l[k] = false) (hm : k = 0) : Chk c l (k + 1) := by
  subst hm
  unfold Chk at h ⊢
  rw [h, prevT_at hk, List.drop_eq_getElem_cons hk]
  conv => lhs; unfold chkF
  unfold badS at hb
  rw [if_neg (by rw [hb]; decide)]
  simp [prevT]
theorem Chk.next {c : Bool} {l : List S} {k m : Nat} (h : Chk c l k) (hk : k < l.length) (hb : badS c l[k] = false) (hm : k = m + 1) (ho : ¬ l[k].1 ≤ (l[m]'(by omega)).1) : Chk c l (k + 1) := by
  subst hm
  unfold Chk at h ⊢
  rw [h, prevT_at hk, prevT_at (by omega), List.drop_eq_getElem_cons hk]
  conv => lhs; unfold chkF
  unfold badS at hb
  rw [if_neg (by rw [hb]; decide), if_neg (by simpa using ho)]
theorem chk_long {k : Int} {l : List S} (h : k = 1 ∨ k = 2) (h2 : 2000 < l.length) : chk k l = 4 := by
  unfold chk
  rw [if_neg (by omega), if_pos h2]
theorem chk_short {k : Int} {l : List S} (h : k = 1 ∨ k = 2) (h2 : ¬ 2000 < l.length) : chk k l = chkF (decide (k = 2)) none l := by
  unfold chk
  rw [if_neg (by omega), if_neg h2]
theorem okS_val {x : S} (h : okS x = true) : inI x.1 ∧ inI x.2 := by
  have := okS_iff.1 h
  unfold inI
  omega
set_option maxHeartbeats 2000000 in
theorem ck1_any (l : List S) (hl : l.length ≤ 2000) (A : Option Addr) (c : Nat) (w : World) (hL : LS w w.heap.size A l) :
    Calls Try.prog 13 #[.int .i64 1, .slice A l.length c] w fun e w' => e = .returned (.int .i64 (chkF false none l)) ∧ Below w.heap.size w w' := by
  have HL := Lib.hid hL
  have HC := Lib.hid (Chk.start false l)
  clear hL
  go_enter Try.func13, Try.ntmps13
  go_wp2
  go_loopw [5] (fun i wr => ∃ k : Nat, k ≤ l.length ∧ i = .int .i64 k ∧ Hid (Chk false l k) ∧ Hid (Below w.heap.size w wr)) (fun i _ => l.length - (intOf i).toNat)
  case atStart => exact ⟨0, by omega, rfl, HC, Below.refl _ _⟩
  case round =>
    clear HC
    obtain ⟨k, hk, rfl, H, HB⟩ := hrel
    by_cases hlt : k < l.length
    · obtain ⟨b, off, rfl, hb, h1', h2'⟩ := HL.out.at_ hlt
      have h1 := (HB.out.cell (p := ⟨b, off + k * 2, none⟩) hb).trans h1'
      have h2 := (HB.out.cell (p := ⟨b, off + k * 2 + 1, none⟩) hb).trans h2'
      have hsz := HB.out.size
      have hbw : b < wr.heap.size := Nat.lt_of_lt_of_le hb HB.out.size
      clear h1' h2'
      have C := Lib.hid (sample_any l[k])
      dsimp only [smpV] at C
      by_cases ho : okS l[k] = false
      · have HE := Lib.hid (H.out.bad hlt (by unfold badS; simp [ho]))
        simp only [ho] at C
        clear H ho
        go_wp2_with (go_at_call 35; (with_reducible refine (C.out _).mono ?_); rintro e w1 ⟨rfl, hb1⟩; have HB1 := Lib.hid (HB.out.trans (hb1.mono hsz)); have g1 := (hb1.cell (p := ⟨b, off + k * 2, none⟩) hbw).trans h1; have g2 := (hb1.cell (p := ⟨b, off + k * 2 + 1, none⟩) hbw).trans h2; have G0 := Lib.hid hb1; clear hb1)
        go_ret
        rw [HE.out]
        exact ⟨rfl, HB1.out⟩
      have ho : okS l[k] = true := by simpa using ho
      simp only [ho] at C
      have HN : Hid (badS false l[k] = false) := by unfold badS; rw [ho]; rfl
      clear ho
      by_cases hk0 : k = 0
      · have HE := Lib.hid (H.out.first hlt HN.out hk0)
        have hg : decide (0 < k) = false := by rw [hk0]; rfl
        have hg1 : decide ((0 : Int) < (k : Int)) = false := by rw [hk0]; rfl
        clear hk0 H HN
        go_wp2_with (go_at_call 35; (with_reducible refine (C.out _).mono ?_); rintro e w1 ⟨rfl, hb1⟩; have HB1 := Lib.hid (HB.out.trans (hb1.mono hsz)); have g1 := (hb1.cell (p := ⟨b, off + k * 2, none⟩) hbw).trans h1; have g2 := (hb1.cell (p := ⟨b, off + k * 2 + 1, none⟩) hbw).trans h2; have G0 := Lib.hid hb1; clear hb1)
        go_quiet (fail)
        go_wp2
        go_roundw
        case rel => exact ⟨k + 1, by omega, by go_num, HE, below_drewN HB1.out _⟩
        case measure => simp [intOf]; omega
      · obtain ⟨m, hm⟩ : ∃ m, k = m + 1 := ⟨k - 1, by omega⟩
        have hml : m < l.length := by omega
        obtain ⟨b', off', hbo, hx1, hp1', hx2⟩ := HL.out.at_ hml
        clear hx1 hx2
        obtain ⟨rfl, rfl⟩ : b = b' ∧ off = off' := by simpa using hbo
        have hp1 := (HB.out.cell (p := ⟨b, off + m * 2, none⟩) hb).trans hp1'
        clear hp1' hbo
        have hg : decide (0 < k) = true := by simp; omega
        have hg1 : decide ((0 : Int) < (k : Int)) = true := by simp; omega
        have hw : IntKind.i64.wrap ((k : Int) - 1) = (m : Int) := by rw [IntWalk.i64_in _ (by omega)]; omega
        by_cases hor : l[k].1 ≤ l[m].1
        · have HE := Lib.hid (H.out.order hlt HN.out hm hor)
          clear H HN hm hk0
          go_wp2_with (go_at_call 35; (with_reducible refine (C.out _).mono ?_); rintro e w1 ⟨rfl, hb1⟩; have HB1 := Lib.hid (HB.out.trans (hb1.mono hsz)); have g1 := (hb1.cell (p := ⟨b, off + k * 2, none⟩) hbw).trans h1; have g2 := (hb1.cell (p := ⟨b, off + k * 2 + 1, none⟩) hbw).trans h2; have G0 := Lib.hid hb1; clear hb1)
          have gp := (G0.out.cell (p := ⟨b, off + m * 2, none⟩) hbw).trans hp1
          go_quiet (fail)
          go_wp2
          go_ret
          rw [HE.out]
          exact ⟨rfl, below_drewN HB1.out _⟩
        · have HE := Lib.hid (H.out.next hlt HN.out hm hor)
          clear H HN hm hk0
          go_wp2_with (go_at_call 35; (with_reducible refine (C.out _).mono ?_); rintro e w1 ⟨rfl, hb1⟩; have HB1 := Lib.hid (HB.out.trans (hb1.mono hsz)); have g1 := (hb1.cell (p := ⟨b, off + k * 2, none⟩) hbw).trans h1; have g2 := (hb1.cell (p := ⟨b, off + k * 2 + 1, none⟩) hbw).trans h2; have G0 := Lib.hid hb1; clear hb1)
          have gp := (G0.out.cell (p := ⟨b, off + m * 2, none⟩) hbw).trans hp1
          go_quiet (fail)
          go_wp2
          go_roundw
          case rel => exact ⟨k + 1, by omega, by go_num, HE, below_drewN HB1.out _⟩
          case measure => simp [intOf]; omega
    · obtain rfl : k = l.length := by omega
      have HE := Lib.hid H.out.done
      clear H
      go_wp2
      go_ret
      rw [HE.out]
      exact ⟨rfl, HB.out⟩
set_option maxHeartbeats 2000000 in
theorem ck2_any (l : List S) (hl : l.length ≤ 2000) (A : Option Addr) (c : Nat) (w : World) (hL : LS w w.heap.size A l) :
    Calls Try.prog 13 #[.int .i64 2, .slice A l.length c] w fun e w' => e = .returned (.int .i64 (chkF true none l)) ∧ Below w.heap.size w w' := by
  have HL := Lib.hid hL
  have HC := Lib.hid (Chk.start true l)
  clear hL
  go_enter Try.func13, Try.ntmps13
  go_wp2
  go_loopw [5] (fun i wr => ∃ k : Nat, k ≤ l.length ∧ i = .int .i64 k ∧ Hid (Chk true l k) ∧ Hid (Below w.heap.size w wr)) (fun i _ => l.length - (intOf i).toNat)
  case atStart => exact ⟨0, by omega, rfl, HC, Below.refl _ _⟩
  case round =>
    clear HC
    obtain ⟨k, hk, rfl, H, HB⟩ := hrel
    by_cases hlt : k < l.length
    · obtain ⟨b, off, rfl, hb, h1', h2'⟩ := HL.out.at_ hlt
      have h1 := (HB.out.cell (p := ⟨b, off + k * 2, none⟩) hb).trans h1'
      have h2 := (HB.out.cell (p := ⟨b, off + k * 2 + 1, none⟩) hb).trans h2'
      have hsz := HB.out.size
      have hbw : b < wr.heap.size := Nat.lt_of_lt_of_le hb HB.out.size
      clear h1' h2'
      have C := Lib.hid (sample_any l[k])
      dsimp only [smpV] at C
      by_cases ho : okS l[k] = false
      · have HE := Lib.hid (H.out.bad hlt (by unfold badS; simp [ho]))
        simp only [ho] at C
        clear H ho
        go_wp2_with (go_at_call 35; (with_reducible refine (C.out _).mono ?_); rintro e w1 ⟨rfl, hb1⟩; have HB1 := Lib.hid (HB.out.trans (hb1.mono hsz)); have g1 := (hb1.cell (p := ⟨b, off + k * 2, none⟩) hbw).trans h1; have g2 := (hb1.cell (p := ⟨b, off + k * 2 + 1, none⟩) hbw).trans h2; have G0 := Lib.hid hb1; clear hb1)
        go_ret
        rw [HE.out]
        exact ⟨rfl, HB1.out⟩
      have ho : okS l[k] = true := by simpa using ho
      simp only [ho] at C
      by_cases hn : l[k].2 < 0
      · have HE := Lib.hid (H.out.bad hlt (by unfold badS; simp [hn]))
        clear H ho
        go_wp2_with (go_at_call 35; (with_reducible refine (C.out _).mono ?_); rintro e w1 ⟨rfl, hb1⟩; have HB1 := Lib.hid (HB.out.trans (hb1.mono hsz)); have g1 := (hb1.cell (p := ⟨b, off + k * 2, none⟩) hbw).trans h1; have g2 := (hb1.cell (p := ⟨b, off + k * 2 + 1, none⟩) hbw).trans h2; have G0 := Lib.hid hb1; clear hb1)
        go_ret
        rw [HE.out]
        exact ⟨rfl, HB1.out⟩
      have HN : Hid (badS true l[k] = false) := by unfold badS; rw [ho, decide_eq_false hn]; rfl
      clear ho
      by_cases hk0 : k = 0
      · have HE := Lib.hid (H.out.first hlt HN.out hk0)
        have hg : decide (0 < k) = false := by rw [hk0]; rfl
        have hg1 : decide ((0 : Int) < (k : Int)) = false := by rw [hk0]; rfl
        clear hk0 H HN
        go_wp2_with (go_at_call 35; (with_reducible refine (C.out _).mono ?_); rintro e w1 ⟨rfl, hb1⟩; have HB1 := Lib.hid (HB.out.trans (hb1.mono hsz)); have g1 := (hb1.cell (p := ⟨b, off + k * 2, none⟩) hbw).trans h1; have g2 := (hb1.cell (p := ⟨b, off + k * 2 + 1, none⟩) hbw).trans h2; have G0 := Lib.hid hb1; clear hb1)
        go_quiet (fail)
        go_wp2
        go_roundw
        case rel => exact ⟨k + 1, by omega, by go_num, HE, below_drewN HB1.out _⟩
        case measure => simp [intOf]; omega
      · obtain ⟨m, hm⟩ : ∃ m, k = m + 1 := ⟨k - 1, by omega⟩
        have hml : m < l.length := by omega
        obtain ⟨b', off', hbo, hx1, hp1', hx2⟩ := HL.out.at_ hml
        clear hx1 hx2
        obtain ⟨rfl, rfl⟩ : b = b' ∧ off = off' := by simpa using hbo
        have hp1 := (HB.out.cell (p := ⟨b, off + m * 2, none⟩) hb).trans hp1'
        clear hp1' hbo
        have hg : decide (0 < k) = true := by simp; omega
        have hg1 : decide ((0 : Int) < (k : Int)) = true := by simp; omega
        have hw : IntKind.i64.wrap ((k : Int) - 1) = (m : Int) := by rw [IntWalk.i64_in _ (by omega)]; omega
        by_cases hor : l[k].1 ≤ l[m].1
        · have HE := Lib.hid (H.out.order hlt HN.out hm hor)
          clear H HN hm hk0
          go_wp2_with (go_at_call 35; (with_reducible refine (C.out _).mono ?_); rintro e w1 ⟨rfl, hb1⟩; have HB1 := Lib.hid (HB.out.trans (hb1.mono hsz)); have g1 := (hb1.cell (p := ⟨b, off + k * 2, none⟩) hbw).trans h1; have g2 := (hb1.cell (p := ⟨b, off + k * 2 + 1, none⟩) hbw).trans h2; have G0 := Lib.hid hb1; clear hb1)
          have gp := (G0.out.cell (p := ⟨b, off + m * 2, none⟩) hbw).trans hp1
          go_quiet (fail)
          go_wp2
          go_ret
          rw [HE.out]
          exact ⟨rfl, below_drewN HB1.out _⟩
        · have HE := Lib.hid (H.out.next hlt HN.out hm hor)
          clear H HN hm hk0
          go_wp2_with (go_at_call 35; (with_reducible refine (C.out _).mono ?_); rintro e w1 ⟨rfl, hb1⟩; have HB1 := Lib.hid (HB.out.trans (hb1.mono hsz)); have g1 := (hb1.cell (p := ⟨b, off + k * 2, none⟩) hbw).trans h1; have g2 := (hb1.cell (p := ⟨b, off + k * 2 + 1, none⟩) hbw).trans h2; have G0 := Lib.hid hb1; clear hb1)
          have gp := (G0.out.cell (p := ⟨b, off + m * 2, none⟩) hbw).trans hp1
          go_quiet (fail)
          go_wp2
          go_roundw
          case rel => exact ⟨k + 1, by omega, by go_num, HE, below_drewN HB1.out _⟩
          case measure => simp [intOf]; omega
    · obtain rfl : k = l.length := by omega
      have HE := Lib.hid H.out.done
      clear H
      go_wp2
      go_ret
      rw [HE.out]
      exact ⟨rfl, HB.out⟩
set_option maxHeartbeats 1000000 in
theorem check_any (kind : Int) (l : List S) (hl : l.length ≤ 100000) (A : Option Addr) (c : Nat) (w : World) (hL : LS w w.heap.size A l) :
    Calls Try.prog 13 #[.int .i64 kind, .slice A l.length c] w fun e w' => e = .returned (.int .i64 (chk kind l)) ∧ Below w.heap.size w w' := by
  by_cases hk : kind = 1 ∨ kind = 2
  · by_cases h2 : 2000 < l.length
    · have HE := Lib.hid (chk_long hk h2)
      clear hL
      rcases hk with rfl | rfl
      all_goals
        go_enter Try.func13, Try.ntmps13
        go_wp2
        go_ret
        rw [HE.out]
        exact ⟨rfl, Below.refl _ _⟩
    · rw [chk_short hk h2]
      rcases hk with rfl | rfl
      · exact ck1_any l (by omega) A c w hL
      · exact ck2_any l (by omega) A c w hL
  · have HE : Hid (chk kind l = 8) := chk_kind (by omega) (by omega)
    have h1 : kind ≠ 1 := by omega
    have h2 : kind ≠ 2 := by omega
    have h3 : (kind != 1) = true := by simpa using h1
    have h4 : (kind != 2) = true := by simpa using h2
    clear hk hL
    go_enter Try.func13, Try.ntmps13
    go_wp2
    go_ret
    rw [HE.out]
    exact ⟨rfl, Below.refl _ _⟩
theorem ok_zero {n : Nat} : decide ((n : Int) = 0) = decide (n = 0) := by
  rw [Bool.eq_iff_iff, decide_eq_true_eq, decide_eq_true_eq]
  omega
set_option maxHeartbeats 1000000 in
theorem valid_any (l : List S) (hl : l.length ≤ 100000) (A : Option Addr) (c : Nat) (w : World) (hL : LS w w.heap.size A l) :
    Calls Try.prog 28 #[.slice A l.length c] w fun e w' => e = .returned (.bool (decide (chk 1 l = 0))) ∧ Below w.heap.size w w' := by
  have C := Lib.hid (check_any 1 l hl A c w hL)
  clear hL
  go_enter Try.func28, Try.ntmps28
  go_wp2_with (go_at_call 13; (with_reducible refine C.out.mono ?_); rintro e w1 ⟨rfl, hb1⟩; have HB1 := Lib.hid hb1; clear hb1)
  all_goals
    go_ret
    refine ⟨ret_bool ?_, HB1.out⟩
    first | rfl | exact ok_zero | (simp; done) | (rw [← ok_zero]; simp)
end Go.Proofs.Ytobipbedkkmlcaa.Sr
