/- Layer 5: the walk of LabelsOrder. -/
import Derived.Test.YtbphhdmnfepbnaaGW
import Derived.Test.YtbphhdmnfepbnaaMO
set_option linter.unusedVariables false
set_option linter.unusedSimpArgs false
namespace Go.Proofs.Ytbphhdmnfepbnaa.Lab
open Go.RowKit
theorem c_great3 (l0 l1 l2 : List Lb) (A0 A1 A2 : Option Addr) (c0 c1 c2 : Nat) (w : World)
    (hm0 : l0.length ≤ maxLen) (hz0 : ∀ x ∈ l0, x.n.size ≤ maxLen ∧ x.v.size ≤ maxLen) (hL0 : LS w w.heap.size A0 l0)
    (hm1 : l1.length ≤ maxLen) (hz1 : ∀ x ∈ l1, x.n.size ≤ maxLen ∧ x.v.size ≤ maxLen) (hL1 : LS w w.heap.size A1 l1)
    (hm2 : l2.length ≤ maxLen) (hz2 : ∀ x ∈ l2, x.n.size ≤ maxLen ∧ x.v.size ≤ maxLen) (hL2 : LS w w.heap.size A2 l2) :
    Calls Try.prog 10 #[.slice (some ⟨w.heap.size, 0, none⟩) 3 3] (w.alloc (.cells #[.slice A0 l0.length c0, .slice A1 l1.length c1, .slice A2 l2.length c2] 22)) fun e w' => e = .returned (.bool (greatL l0 || (greatL l1 || greatL l2))) ∧ w.alloc (.cells #[.slice A0 l0.length c0, .slice A1 l1.length c1, .slice A2 l2.length c2] 22) = w' := by
  refine (great_any [⟨A0, c0, l0⟩, ⟨A1, c1, l1⟩, ⟨A2, c2, l2⟩] (by simp) w.heap.size 3 _ ⟨fun j hj => ?_, fun x hx => ?_⟩).mono fun e w' ⟨he, hw⟩ => ⟨by rw [he]; simp [greatLL], hw⟩
  · match j, hj with
    | 0, _ => simp
    | 1, _ => simp
    | 2, _ => simp
  · have hb : Below w.heap.size w (w.alloc (.cells #[.slice A0 l0.length c0, .slice A1 l1.length c1, .slice A2 l2.length c2] 22)) := (Below.refl _ w).alloc (Nat.le_refl _) _
    simp only [List.mem_cons, List.not_mem_nil, or_false] at hx
    rcases hx with rfl | rfl | rfl
    · exact ⟨w.heap.size, hm0, hz0, hL0.below hb⟩
    · exact ⟨w.heap.size, hm1, hz1, hL1.below hb⟩
    · exact ⟨w.heap.size, hm2, hz2, hL2.below hb⟩
theorem order_cases (a b c : List Lb) : 0 < cmpL a b ∨ (cmpL a b ≤ 0 ∧ 0 < cmpL b c) ∨ (cmpL a b < 0 ∧ cmpL b c ≤ 0 ∧ cmpL a c < 0) ∨ (cmpL a b = 0 ∧ cmpL b c < 0 ∧ cmpL a c < 0) ∨ (cmpL a b = 0 ∧ cmpL b c = 0 ∧ cmpL a c = 0) := by
  by_cases h1 : 0 < cmpL a b
  · exact .inl h1
  · by_cases h2 : 0 < cmpL b c
    · exact .inr (.inl ⟨by omega, h2⟩)
    · obtain ⟨h3, h4⟩ := ord_L.tr a b c (by omega) (by omega)
      by_cases h5 : cmpL a b < 0
      · exact .inr (.inr (.inl ⟨h5, by omega, h4.2 (.inl h5)⟩))
      · by_cases h6 : cmpL b c < 0
        · exact .inr (.inr (.inr (.inl ⟨by omega, h6, h4.2 (.inr h6)⟩)))
        · have h7 : ¬ cmpL a c < 0 := fun h => by
            rcases h4.1 h with h | h <;> omega
          exact .inr (.inr (.inr (.inr ⟨by omega, by omega, by omega⟩)))
theorem cmpX_bd2 (a b : List Lb) : -1 ≤ cmpL a b ∧ cmpL a b ≤ 1 := by
  induction a generalizing b with
  | nil => cases b <;> simp [cmpL]
  | cons x a ih =>
    cases b with
    | nil => simp [cmpL]
    | cons y b =>
      rw [cmpL_cons]
      split
      · exact ih b
      · exact cmpX_bd x y
set_option maxRecDepth 100000 in
set_option maxHeartbeats 4000000 in
theorem order_walk (A0 : Option Addr) (c0 : Nat) (l0 : List Lb) (hm0 : l0.length ≤ maxLen) (hz0 : ∀ x ∈ l0, x.n.size ≤ maxLen ∧ x.v.size ≤ maxLen)
    (A1 : Option Addr) (c1 : Nat) (l1 : List Lb) (hm1 : l1.length ≤ maxLen) (hz1 : ∀ x ∈ l1, x.n.size ≤ maxLen ∧ x.v.size ≤ maxLen)
    (A2 : Option Addr) (c2 : Nat) (l2 : List Lb) (hm2 : l2.length ≤ maxLen) (hz2 : ∀ x ∈ l2, x.n.size ≤ maxLen ∧ x.v.size ≤ maxLen)
    (w : World) (hL0 : LS w w.heap.size A0 l0) (hL1 : LS w w.heap.size A1 l1) (hL2 : LS w w.heap.size A2 l2) :
    Calls Try.prog 5 #[.slice A0 l0.length c0, .slice A1 l1.length c1, .slice A2 l2.length c2] w fun e w' => e = .returned (.bool true) ∧ Below w.heap.size w w' := by
  have G := Lib.hid (c_great3 l0 l1 l2 A0 A1 A2 c0 c1 c2 w hm0 hz0 hL0 hm1 hz1 hL1 hm2 hz2 hL2)
  have R0 : Hid (RB w (w.alloc (.cells #[.slice A0 l0.length c0, .slice A1 l1.length c1, .slice A2 l2.length c2] 22))) := (RB.refl w).alloc _
  have X0 := Lib.hid hL0
  have X1 := Lib.hid hL1
  have X2 := Lib.hid hL2
  have M0 := Lib.hid hm0
  have M1 := Lib.hid hm1
  have M2 := Lib.hid hm2
  clear hL0 hL1 hL2 hz0 hz1 hz2
  unfold maxLen at hm0 hm1 hm2
  cases hg : (greatL l0 || (greatL l1 || greatL l2)) with
  | true =>
    rw [hg] at G
    clear hg
    go_enter Try.func5, Try.ntmps5
    go_wp2_with (first
      | (go_at_call 10; (with_reducible refine G.out.mono ?_); rintro e w1 ⟨rfl, rfl⟩)
      | (go_at_call 11; (with_reducible refine (c_awake R0.out).mono ?_); rintro e w2 ⟨rfl, hb⟩; have R2 := Lib.hid hb; clear hb))
    go_ret
    exact ⟨rfl, R2.out⟩
  | false =>
    rw [hg] at G
    clear hg
    have T := order_cases l0 l1 l2
    obtain ⟨x, hx⟩ : ∃ x, cmpL l0 l1 = x := ⟨_, rfl⟩
    obtain ⟨y, hy⟩ : ∃ y, cmpL l1 l2 = y := ⟨_, rfl⟩
    obtain ⟨z, hz⟩ : ∃ z, cmpL l0 l2 = z := ⟨_, rfl⟩
    have bx := cmpX_bd2 l0 l1
    rw [hx] at bx
    have hn : IntKind.i64.wrap (-x) = -x := IntWalk.i64_in _ (by omega)
    have hyx : cmpL l1 l0 = -x := by rw [ord_L.neg l0 l1, hx]
    have he : eqL l0 l1 = decide (x = 0) := by rw [← hx, ord_eq]
    rw [hx, hy, hz] at T
    have K01 : Hid (∀ V, RB w V → Calls Try.prog 31 #[.slice A0 l0.length c0, .slice A1 l1.length c1] V fun e w' => e = .returned (.int .i64 x) ∧ RB w w') := fun V h => by rw [← hx]; exact c_compare l0 l1 M0.out M1.out A0 A1 c0 c1 (X0.out.rb h) (X1.out.rb h) h
    have K12 : Hid (∀ V, RB w V → Calls Try.prog 31 #[.slice A1 l1.length c1, .slice A2 l2.length c2] V fun e w' => e = .returned (.int .i64 y) ∧ RB w w') := fun V h => by rw [← hy]; exact c_compare l1 l2 M1.out M2.out A1 A2 c1 c2 (X1.out.rb h) (X2.out.rb h) h
    have K02 : Hid (∀ V, RB w V → Calls Try.prog 31 #[.slice A0 l0.length c0, .slice A2 l2.length c2] V fun e w' => e = .returned (.int .i64 z) ∧ RB w w') := fun V h => by rw [← hz]; exact c_compare l0 l2 M0.out M2.out A0 A2 c0 c2 (X0.out.rb h) (X2.out.rb h) h
    have K10 : Hid (∀ V, RB w V → Calls Try.prog 31 #[.slice A1 l1.length c1, .slice A0 l0.length c0] V fun e w' => e = .returned (.int .i64 (-x)) ∧ RB w w') := fun V h => by rw [← hyx]; exact c_compare l1 l0 M1.out M0.out A1 A0 c1 c0 (X1.out.rb h) (X0.out.rb h) h
    have F01 : Hid (∀ V, RB w V → Calls Try.prog 32 #[.slice A0 l0.length c0, .slice A1 l1.length c1] V fun e w' => e = .returned (.int .i64 x) ∧ RB w w') := fun V h => by rw [← hx]; exact c_refCompare l0 l1 M0.out M1.out A0 A1 c0 c1 (X0.out.rb h) (X1.out.rb h) h
    have E01 : Hid (∀ V, RB w V → Calls Try.prog 14 #[.slice A0 l0.length c0, .slice A1 l1.length c1] V fun e w' => e = .returned (.bool (x == 0)) ∧ RB w w') := fun V h => by
      have h1 := c_equal l0 l1 M0.out M1.out A0 A1 c0 c1 (X0.out.rb h) (X1.out.rb h) h
      rw [he] at h1
      exact h1
    clear hx hy hz hyx he X0 X1 X2 M0 M1 M2 bx
    have fin : Calls Try.prog 5 #[.slice A0 l0.length c0, .slice A1 l1.length c1, .slice A2 l2.length c2] w fun e w' => e = .returned (.bool true) ∧ Below w.heap.size w w' := by
      rcases T with h1 | ⟨h1, h2⟩ | ⟨h1, h2, h3⟩ | ⟨h1, h2, h3⟩ | ⟨h1, h2, h3⟩
      · have g1 : (x == 0) = false := by simp; omega
        go_enter Try.func5, Try.ntmps5
        go_wp2_with (first
          | (go_at_call 10; (with_reducible refine G.out.mono ?_); rintro e w1 ⟨rfl, rfl⟩)
          | (go_at_call 31; (with_reducible refine (K01.out _ R0.out).mono ?_); rintro e w1 ⟨rfl, hb⟩; have R1 := Lib.hid hb; clear hb)
          | (go_at_call 31; (with_reducible refine (K12.out _ R1.out).mono ?_); rintro e w2 ⟨rfl, hb⟩; have R2 := Lib.hid hb; clear hb)
          | (go_at_call 31; (with_reducible refine (K02.out _ R2.out).mono ?_); rintro e w3 ⟨rfl, hb⟩; have R3 := Lib.hid hb; clear hb)
          | (go_at_call 32; (with_reducible refine (F01.out _ R3.out).mono ?_); rintro e w4 ⟨rfl, hb⟩; have R4 := Lib.hid hb; clear hb)
          | (go_at_call 14; (with_reducible refine (E01.out _ R4.out).mono ?_); rintro e w5 ⟨rfl, hb⟩; have R5 := Lib.hid hb; clear hb)
          | (go_at_call 31; (with_reducible refine (K10.out _ R5.out).mono ?_); rintro e w6 ⟨rfl, hb⟩; have R6 := Lib.hid hb; clear hb)
          | (go_at_call 11; (with_reducible refine (c_awake R6.out).mono ?_); rintro e w7 ⟨rfl, hb⟩; have R7 := Lib.hid hb; clear hb))
        go_ret
        exact ⟨by first | rfl | exact ret_bool (by simp_all), R7.out⟩
      · have g1 : ¬ 0 < x := by omega
        go_enter Try.func5, Try.ntmps5
        go_wp2_with (first
          | (go_at_call 10; (with_reducible refine G.out.mono ?_); rintro e w1 ⟨rfl, rfl⟩)
          | (go_at_call 31; (with_reducible refine (K01.out _ R0.out).mono ?_); rintro e w1 ⟨rfl, hb⟩; have R1 := Lib.hid hb; clear hb)
          | (go_at_call 31; (with_reducible refine (K12.out _ R1.out).mono ?_); rintro e w2 ⟨rfl, hb⟩; have R2 := Lib.hid hb; clear hb)
          | (go_at_call 31; (with_reducible refine (K02.out _ R2.out).mono ?_); rintro e w3 ⟨rfl, hb⟩; have R3 := Lib.hid hb; clear hb)
          | (go_at_call 32; (with_reducible refine (F01.out _ R3.out).mono ?_); rintro e w4 ⟨rfl, hb⟩; have R4 := Lib.hid hb; clear hb)
          | (go_at_call 14; (with_reducible refine (E01.out _ R4.out).mono ?_); rintro e w5 ⟨rfl, hb⟩; have R5 := Lib.hid hb; clear hb)
          | (go_at_call 31; (with_reducible refine (K10.out _ R5.out).mono ?_); rintro e w6 ⟨rfl, hb⟩; have R6 := Lib.hid hb; clear hb)
          | (go_at_call 11; (with_reducible refine (c_awake R6.out).mono ?_); rintro e w7 ⟨rfl, hb⟩; have R7 := Lib.hid hb; clear hb))
        go_ret
        exact ⟨by first | rfl | exact ret_bool (by simp_all), R7.out⟩
      · have g1 : ¬ 0 < x := by omega
        have g2 : ¬ 0 < y := by omega
        have g3 : z ≤ 0 := by omega
        go_enter Try.func5, Try.ntmps5
        go_wp2_with (first
          | (go_at_call 10; (with_reducible refine G.out.mono ?_); rintro e w1 ⟨rfl, rfl⟩)
          | (go_at_call 31; (with_reducible refine (K01.out _ R0.out).mono ?_); rintro e w1 ⟨rfl, hb⟩; have R1 := Lib.hid hb; clear hb)
          | (go_at_call 31; (with_reducible refine (K12.out _ R1.out).mono ?_); rintro e w2 ⟨rfl, hb⟩; have R2 := Lib.hid hb; clear hb)
          | (go_at_call 31; (with_reducible refine (K02.out _ R2.out).mono ?_); rintro e w3 ⟨rfl, hb⟩; have R3 := Lib.hid hb; clear hb)
          | (go_at_call 32; (with_reducible refine (F01.out _ R3.out).mono ?_); rintro e w4 ⟨rfl, hb⟩; have R4 := Lib.hid hb; clear hb)
          | (go_at_call 14; (with_reducible refine (E01.out _ R4.out).mono ?_); rintro e w5 ⟨rfl, hb⟩; have R5 := Lib.hid hb; clear hb)
          | (go_at_call 31; (with_reducible refine (K10.out _ R5.out).mono ?_); rintro e w6 ⟨rfl, hb⟩; have R6 := Lib.hid hb; clear hb)
          | (go_at_call 11; (with_reducible refine (c_awake R6.out).mono ?_); rintro e w7 ⟨rfl, hb⟩; have R7 := Lib.hid hb; clear hb))
        go_ret
        exact ⟨by first | rfl | exact ret_bool (by simp_all), R7.out⟩
      · have g0 : (x == 0) = true := by simp [h1]
        have g1 : ¬ 0 < x := by omega
        have g2 : ¬ 0 < y := by omega
        have g3 : z ≤ 0 := by omega
        have g4 : ¬ x < 0 := by omega
        clear h1
        go_enter Try.func5, Try.ntmps5
        go_wp2_with (first
          | (go_at_call 10; (with_reducible refine G.out.mono ?_); rintro e w1 ⟨rfl, rfl⟩)
          | (go_at_call 31; (with_reducible refine (K01.out _ R0.out).mono ?_); rintro e w1 ⟨rfl, hb⟩; have R1 := Lib.hid hb; clear hb)
          | (go_at_call 31; (with_reducible refine (K12.out _ R1.out).mono ?_); rintro e w2 ⟨rfl, hb⟩; have R2 := Lib.hid hb; clear hb)
          | (go_at_call 31; (with_reducible refine (K02.out _ R2.out).mono ?_); rintro e w3 ⟨rfl, hb⟩; have R3 := Lib.hid hb; clear hb)
          | (go_at_call 32; (with_reducible refine (F01.out _ R3.out).mono ?_); rintro e w4 ⟨rfl, hb⟩; have R4 := Lib.hid hb; clear hb)
          | (go_at_call 14; (with_reducible refine (E01.out _ R4.out).mono ?_); rintro e w5 ⟨rfl, hb⟩; have R5 := Lib.hid hb; clear hb)
          | (go_at_call 31; (with_reducible refine (K10.out _ R5.out).mono ?_); rintro e w6 ⟨rfl, hb⟩; have R6 := Lib.hid hb; clear hb)
          | (go_at_call 11; (with_reducible refine (c_awake R6.out).mono ?_); rintro e w7 ⟨rfl, hb⟩; have R7 := Lib.hid hb; clear hb))
        go_ret
        exact ⟨by first | rfl | exact ret_bool (by simp_all), R7.out⟩
      · have g0 : (x == 0) = true := by simp [h1]
        have g1 : ¬ 0 < x := by omega
        have g2 : ¬ 0 < y := by omega
        have g3 : z ≤ 0 := by omega
        have g4 : ¬ x < 0 := by omega
        have g5 : ¬ y < 0 := by omega
        have g6 : ¬ z < 0 := by omega
        have k1 : decide (0 < x) = false := decide_eq_false g1
        have k2 : decide (0 < y) = false := decide_eq_false g2
        have k4 : decide (x < 0) = false := decide_eq_false g4
        have k5 : decide (y < 0) = false := decide_eq_false g5
        have k6 : decide (z < 0) = false := decide_eq_false g6
        have k7 : (0 < x) = False := eq_false g1
        have k8 : (0 < y) = False := eq_false g2
        clear h1 h2 h3
        go_enter Try.func5, Try.ntmps5
        go_wp2_with (first
          | (go_at_call 10; (with_reducible refine G.out.mono ?_); rintro e w1 ⟨rfl, rfl⟩)
          | (go_at_call 31; (with_reducible refine (K01.out _ R0.out).mono ?_); rintro e w1 ⟨rfl, hb⟩; have R1 := Lib.hid hb; clear hb)
          | (go_at_call 31; (with_reducible refine (K12.out _ R1.out).mono ?_); rintro e w2 ⟨rfl, hb⟩; have R2 := Lib.hid hb; clear hb)
          | (go_at_call 31; (with_reducible refine (K02.out _ R2.out).mono ?_); rintro e w3 ⟨rfl, hb⟩; have R3 := Lib.hid hb; clear hb)
          | (go_at_call 32; (with_reducible refine (F01.out _ R3.out).mono ?_); rintro e w4 ⟨rfl, hb⟩; have R4 := Lib.hid hb; clear hb)
          | (go_at_call 14; (with_reducible refine (E01.out _ R4.out).mono ?_); rintro e w5 ⟨rfl, hb⟩; have R5 := Lib.hid hb; clear hb)
          | (go_at_call 31; (with_reducible refine (K10.out _ R5.out).mono ?_); rintro e w6 ⟨rfl, hb⟩; have R6 := Lib.hid hb; clear hb)
          | (go_at_call 11; (with_reducible refine (c_awake R6.out).mono ?_); rintro e w7 ⟨rfl, hb⟩; have R7 := Lib.hid hb; clear hb))
        go_ret
        exact ⟨by first | rfl | exact ret_bool (by simp_all), R7.out⟩
    exact fin
end Go.Proofs.Ytbphhdmnfepbnaa.Lab
