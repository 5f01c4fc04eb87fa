/- Layer 11: the program's Check. -/
import Derived.Test.YtobipbedkkmlcaaSrU
set_option linter.unusedVariables false
set_option linter.unusedSimpArgs false
namespace Go.Proofs.Ytobipbedkkmlcaa.Sr
open Go.RowKit
/-- The first fault of a list, behind a time, of values from least on. -/
def chkG (least : Int) : Int → List S → Nat
  | _, [] => 0
  | p, x :: r => if x.1 < 1 ∨ 1099511627776 < x.1 ∨ x.2 < least ∨ 1099511627776 < x.2 then 2 else if x.1 ≤ p then 9 else chkG least x.1 r
theorem chkG_bad {least p : Int} {x : S} {r : List S} (h : x.1 < 1 ∨ 1099511627776 < x.1 ∨ x.2 < least ∨ 1099511627776 < x.2) : chkG least p (x :: r) = 2 := by
  unfold chkG
  exact if_pos h
theorem chkG_order {least p : Int} {x : S} {r : List S} (h : ¬ (x.1 < 1 ∨ 1099511627776 < x.1 ∨ x.2 < least ∨ 1099511627776 < x.2)) (h2 : x.1 ≤ p) : chkG least p (x :: r) = 9 := by
  unfold chkG
  rw [if_neg h, if_pos h2]
theorem chkG_next {least p : Int} {x : S} {r : List S} (h : ¬ (x.1 < 1 ∨ 1099511627776 < x.1 ∨ x.2 < least ∨ 1099511627776 < x.2)) (h2 : ¬ x.1 ≤ p) : chkG least p (x :: r) = chkG least x.1 r := by
  conv => lhs; unfold chkG
  rw [if_neg h, if_neg h2]
def leastC (c : Bool) : Int := if c = true then 0 else -1099511627776
theorem bad_iff {c : Bool} {x : S} : (x.1 < 1 ∨ 1099511627776 < x.1 ∨ x.2 < leastC c ∨ 1099511627776 < x.2) ↔ (!okS x || (c && decide (x.2 < 0))) = true := by
  unfold leastC okS
  cases c <;> simp <;> omega
theorem chkG_F {c : Bool} : ∀ {l : List S} {p : Int} {q : Option Int}, (q = none → p = 0) → (∀ t, q = some t → p = t) → chkG (leastC c) p l = chkF c q l
  | [], p, q, _, _ => by
    unfold chkG
    cases q <;> rfl
  | x :: r, p, q, h1, h2 => by
    by_cases hb : x.1 < 1 ∨ 1099511627776 < x.1 ∨ x.2 < leastC c ∨ 1099511627776 < x.2
    · rw [chkG_bad hb]
      unfold chkF
      rw [if_pos (bad_iff.1 hb)]
    · have hb2 : ¬ (!okS x || (c && decide (x.2 < 0))) = true := fun h => hb (bad_iff.2 h)
      have hr : chkG (leastC c) x.1 r = chkF c (some x.1) r := chkG_F (fun h => by cases h) (fun t h => by cases h; rfl)
      unfold chkF
      rw [if_neg hb2]
      cases q with
      | none =>
        have := h1 rfl
        rw [chkG_next hb (by omega), hr]
        rfl
      | some t =>
        have := h2 t rfl
        subst this
        by_cases ho : x.1 ≤ p
        · rw [chkG_order hb ho]
          simp [ho]
        · rw [chkG_next hb ho, hr]
          simp [ho]
theorem chk_from (c : Bool) (l : List S) : (if 2000 < l.length then 4 else chkG (leastC c) 0 l) = chk (if c = true then 2 else 1) l := by
  rw [chkG_F (c := c) (q := none) (fun _ => rfl) (fun t h => by cases h)]
  unfold chk
  cases c <;> simp
set_option maxHeartbeats 2000000 in
theorem from_any (least : Int) (l : List S) (hl : l.length ≤ 100000) (A : Option Addr) (c : Nat) (w : World) (hL : LS w w.heap.size A l) :
    Calls Try.prog 34 #[.int .i64 least, .slice A l.length c] w fun e w' => e = .returned (.int .i64 ((if 2000 < l.length then 4 else chkG least 0 l : Nat) : Int)) ∧ Below w.heap.size w w' := by
  have HL := Lib.hid hL
  clear hL
  by_cases hn : 2000 < l.length
  · rw [if_pos hn]
    have hn1 : (2000 : Int) < l.length := by omega
    go_enter Try.func34, Try.ntmps34
    go_wp2
    go_ret
    exact ⟨rfl, Below.refl _ _⟩
  · rw [if_neg hn]
    have hn1 : ¬ (2000 : Int) < l.length := by omega
    go_enter Try.func34, Try.ntmps34
    go_wp2
    clear hn hn1
    go_loopw [5, 13] (fun vp vi wr => ∃ (k : Nat) (p : Int), k ≤ l.length ∧ vi = .int .i64 k ∧ vp = .int .i64 p ∧ Hid (chkG least 0 l = chkG least p (l.drop k)) ∧ Hid (Below w.heap.size w wr)) (fun _ vi _ => l.length - (intOf vi).toNat)
    case atStart => exact ⟨0, 0, by omega, rfl, rfl, rfl, Below.refl _ _⟩
    case round =>
      obtain ⟨k, p, hk, rfl, rfl, H, HB⟩ := hrel
      by_cases hlt : k < l.length
      · obtain ⟨b, off, rfl, hb, h1', h2'⟩ := HL.out.at_ hlt
        have h1 := (HB.out.cell (p := ⟨b, off + k * 2, none⟩) hb).trans h1'
        have h2 := (HB.out.cell (p := ⟨b, off + k * 2 + 1, none⟩) hb).trans h2'
        have HD : Hid (chkG least 0 l = chkG least p (l[k] :: l.drop (k + 1))) := by
          have h := H.out
          rw [List.drop_eq_getElem_cons hlt] at h
          exact h
        have B1 : Hid (∀ o, Below w.heap.size w (wr.alloc o)) := fun o => HB.out.alloc HB.out.size _
        clear h1' h2' H HB
        generalize l[k] = x at *
        by_cases hbad : x.1 < 1 ∨ 1099511627776 < x.1 ∨ x.2 < least ∨ 1099511627776 < x.2
        · have HE : Hid (chkG least 0 l = 2) := HD.out.trans (chkG_bad hbad)
          clear HD
          have hcase : x.1 < 1 ∨ (¬ x.1 < 1 ∧ 1099511627776 < x.1) ∨ (¬ x.1 < 1 ∧ ¬ 1099511627776 < x.1 ∧ x.2 < least) ∨ (¬ x.1 < 1 ∧ ¬ 1099511627776 < x.1 ∧ ¬ x.2 < least ∧ 1099511627776 < x.2) := by omega
          clear hbad
          rcases hcase with c1 | ⟨c1, c2⟩ | ⟨c1, c2, c3⟩ | ⟨c1, c2, c3, c4⟩
          all_goals
            go_wp2
            go_ret
            rw [HE.out]
            exact ⟨rfl, B1.out _⟩
        · have HBAD := Lib.hid hbad
          obtain ⟨c1, c2, c3, c4⟩ : ¬ x.1 < 1 ∧ ¬ 1099511627776 < x.1 ∧ ¬ x.2 < least ∧ ¬ 1099511627776 < x.2 := by omega
          clear hbad
          by_cases ho : x.1 ≤ p
          · have HE : Hid (chkG least 0 l = 9) := HD.out.trans (chkG_order HBAD.out ho)
            clear HD HBAD
            go_wp2
            go_ret
            rw [HE.out]
            exact ⟨rfl, B1.out _⟩
          · have HE : Hid (chkG least 0 l = chkG least x.1 (l.drop (k + 1))) := HD.out.trans (chkG_next HBAD.out ho)
            clear HD HBAD
            go_wp2
            go_roundw
            case rel => exact ⟨k + 1, x.1, by omega, by go_num, rfl, HE, B1.out _⟩
            case measure => simp [intOf]; omega
      · obtain rfl : k = l.length := by omega
        have HE : Hid (chkG least 0 l = 0) := by
          have h := H.out
          rw [List.drop_of_length_le (Nat.le_refl _)] at h
          exact h
        clear H
        go_wp2
        go_ret
        rw [HE.out]
        exact ⟨rfl, HB.out⟩
theorem from_c (cb : Bool) (least : Int) (hc : least = leastC cb) (l : List S) (hl : l.length ≤ 100000) (A : Option Addr) (c : Nat) (w : World) (hL : LS w w.heap.size A l) :
    Calls Try.prog 34 #[.int .i64 least, .slice A l.length c] w fun e w' => e = .returned (.int .i64 ((chk (if cb = true then 2 else 1) l : Nat) : Int)) ∧ Below w.heap.size w w' := by
  have h := from_any least l hl A c w hL
  rw [hc, chk_from] at h
  rw [hc]
  exact h
/-- The program's Check. -/
theorem pCheck_any (kind : Int) (l : List S) (hl : l.length ≤ 100000) (A : Option Addr) (c : Nat) (w : World) (hL : LS w w.heap.size A l) :
    Calls Try.prog 12 #[.int .i64 kind, .slice A l.length c] w fun e w' => e = .returned (.int .i64 (chk kind l : Nat)) ∧ Below w.heap.size w w' := by
  have C1 := Lib.hid (from_c false (-1099511627776) rfl l hl A c w hL)
  have C2 := Lib.hid (from_c true 0 rfl l hl A c w hL)
  by_cases h1 : kind = 1
  · subst h1
    clear hL C2
    go_enter Try.func12, Try.ntmps12
    go_wp2_with (go_at_call 34; (with_reducible refine C1.out.mono ?_); rintro e w1 ⟨rfl, hb1⟩; have HB1 := Lib.hid hb1; clear hb1)
    go_ret
    exact ⟨rfl, HB1.out⟩
  · by_cases h2 : kind = 2
    · subst h2
      clear hL C1
      go_enter Try.func12, Try.ntmps12
      go_wp2_with (go_at_call 34; (with_reducible refine C2.out.mono ?_); rintro e w1 ⟨rfl, hb1⟩; have HB1 := Lib.hid hb1; clear hb1)
      go_ret
      exact ⟨rfl, HB1.out⟩
    · have e1 : (kind == 1) = false := by rw [beq_eq_false_iff_ne]; exact h1
      have e2 : (kind == 2) = false := by rw [beq_eq_false_iff_ne]; exact h2
      have HE := Lib.hid (chk_kind (l := l) h1 h2)
      clear hL C1 C2 h1 h2
      go_enter Try.func12, Try.ntmps12
      go_wp2
      go_ret
      rw [HE.out]
      exact ⟨rfl, Below.refl _ _⟩
theorem invalid_any (l : List S) (hl : l.length ≤ 100000) (A : Option Addr) (c : Nat) (w : World) (hL : LS w w.heap.size A l) :
    Calls Try.prog 39 #[.slice A l.length c] w fun e w' => e = .returned (.bool (decide (chk 1 l ≠ 0))) ∧ Below w.heap.size w w' := by
  have C := Lib.hid (pCheck_any 1 l hl A c w hL)
  clear hL
  go_enter Try.func39, Try.ntmps39
  go_wp2_with (go_at_call 12; (with_reducible refine C.out.mono ?_); rintro e w1 ⟨rfl, hb1⟩; have HB1 := Lib.hid hb1; clear hb1)
  go_ret
  refine ⟨ret_bool ?_, HB1.out⟩
  generalize chk 1 l = n
  rw [Bool.eq_iff_iff]
  simp
  try omega
end Go.Proofs.Ytobipbedkkmlcaa.Sr
