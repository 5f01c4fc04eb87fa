/- Layer 5: the walk of LabelsBack. -/
import Derived.Test.YtbphhdmnfepbnaaMB
set_option linter.unusedVariables false
set_option linter.unusedSimpArgs false
namespace Go.Proofs.Ytbphhdmnfepbnaa.Lab
open Go.RowKit
set_option maxRecDepth 100000 in
set_option maxHeartbeats 4000000 in
theorem back_walk (A : Option Addr) (c : Nat) (l : List Lb) (hm : l.length ≤ maxLen) (hz : ∀ x ∈ l, x.n.size ≤ maxLen ∧ x.v.size ≤ maxLen) (s : ByteArray) (hs : s.size ≤ maxLen) (w : World) (hL : LS w w.heap.size A l) :
    Calls Try.prog 6 #[.slice A l.length c, .string s] w fun e w' => e = .returned (.bool true) ∧ Below w.heap.size w w' := by
  have G := Lib.hid (c_great1 l hm hz A c w hL)
  have R0 : Hid (RB w (w.alloc (.cells #[.slice A l.length c] 22))) := (RB.refl w).alloc _
  have X := Lib.hid hL
  have HH := Lib.hid hm
  unfold maxLen at hm hs
  clear hL hz
  cases hg : greatL l with
  | true =>
    rw [hg] at G
    clear hg
    go_enter Try.func6, Try.ntmps6
    go_wp2_with (first
      | (go_at_call 10; (with_reducible refine G.out.mono ?_); rintro e w1 ⟨rfl, rfl⟩)
      | (go_at_call 11; (with_reducible refine (c_awake R0.out).mono ?_); rintro e w2 ⟨rfl, hb⟩; have R2 := Lib.hid hb; clear hb))
    go_ret
    exact ⟨rfl, R2.out⟩
  | false =>
    have hsm := great_sm hg
    have SM := Lib.hid hsm
    rw [hg] at G
    clear hg hsm
    by_cases h3 : 300 < s.size
    · go_enter Try.func6, Try.ntmps6
      go_wp2_with (first
        | (go_at_call 10; (with_reducible refine G.out.mono ?_); rintro e w1 ⟨rfl, rfl⟩)
        | (go_at_call 11; (with_reducible refine (c_awake R0.out).mono ?_); rintro e w2 ⟨rfl, hb⟩; have R2 := Lib.hid hb; clear hb))
      go_ret
      exact ⟨rfl, R2.out⟩
    · obtain ⟨m1, e1, hp1⟩ : ∃ m1 e1, parseO (fmtL l) = (m1, e1) := ⟨_, _, rfl⟩
      obtain ⟨m2, e2, hp2⟩ : ∃ m2 e2, parseO s.data.toList = (m2, e2) := ⟨_, _, rfl⟩
      have hm2 : Sm m2 := by have h := parse_sm s.data.toList; rw [hp2] at h; exact h
      have SM2 := Lib.hid hm2
      have P1 : Hid (∀ V, Calls Try.prog 23 #[.string (mkS (fmtL l))] V (PairPost V m1 e1)) := fun V => c_parse (mkS (fmtL l)) (by rw [mkS_size]; have := SM.out.fmt; omega) (by rw [show (mkS (fmtL l)).data.toList = fmtL l from ba_mk _]; exact hp1) (RB.refl V)
      have P2 : Hid (∀ V, Calls Try.prog 23 #[.string s] V (PairPost V m2 e2)) := fun V => c_parse s (by omega) hp2 (RB.refl V)
      have K1 : Hid (∀ V, LS V V.heap.size A l → Calls Try.prog 17 #[.slice A l.length c] V fun e w' => e = .returned (.int .i64 (chk l)) ∧ RB V w') := fun V h => c_check l SM.out A c h (RB.refl V)
      by_cases hc : chk l = 0
      · have hq := back_fmt hc
        rw [hp1] at hq
        injection hq with q1 q2
        subst m1
        subst e1
        rw [hc] at K1
        clear hc hp1
        by_cases hc2 : e2 = 0
        · subst hc2
          obtain ⟨b1, b2⟩ := back_txt hp2
          have hfe : mkS (fmtL m2) = s := by rw [b1, mk_self]
          have hfe3 : ((mkS (fmtL m2)).toList == s.toList) = true := by rw [hfe]; simp
          have K2 : Hid (∀ V E n, LS V V.heap.size E m2 → Calls Try.prog 17 #[.slice E m2.length n] V fun e w' => e = .returned (.int .i64 0) ∧ RB V w') := fun V E n h => by rw [← b2]; exact c_check m2 SM2.out E n h (RB.refl V)
          clear b1 b2 hp2 hfe
          go_enter Try.func6, Try.ntmps6
          go_wp2_with (first
            | (go_at_call 10; (with_reducible refine G.out.mono ?_); rintro e w1 ⟨rfl, rfl⟩)
            | (go_at_call 25; (with_reducible refine (c_format l SM.out A c (X.out.rb R0.out) R0.out).mono ?_); rintro e w2 ⟨rfl, hb⟩; have R2 := Lib.hid hb; have T2 : Hid (RB w2 w2) := RB.refl w2; have X2 := Lib.hid (X.out.rb hb); clear hb)
            | (go_at_call 23; (with_reducible refine (P1.out _).mono ?_); rintro e w3 ⟨D, m, rfl, hl, hb⟩; have R3 := Lib.hid hb; have L3 := Lib.hid hl; have X3 := Lib.hid (X2.out.rb hb); clear hb hl)
            | (go_at_call 17; (with_reducible refine (K1.out _ X3.out).mono ?_); rintro e w4 ⟨rfl, hb⟩; have R4 := Lib.hid hb; have X4 := Lib.hid (X3.out.rb hb); have L4 := Lib.hid (L3.out.rb hb); clear hb)
            | (go_at_call 14; (with_reducible refine (c_same l HH.out A D c m X4.out L4.out (RB.refl w4)).mono ?_); rintro e w5 ⟨rfl, hb⟩; have R5 := Lib.hid hb; clear hb)
            | (go_at_call 23; (with_reducible refine (P2.out w5).mono ?_); rintro e w6 ⟨E, n, rfl, hl, hb⟩; have R6 := Lib.hid hb; have L6 := Lib.hid hl; clear hb hl)
            | (go_at_call 25; (with_reducible refine (c_format m2 SM2.out E n L6.out (RB.refl w6)).mono ?_); rintro e w7 ⟨rfl, hb⟩; have R7 := Lib.hid hb; have L7 := Lib.hid (L6.out.rb hb); clear hb)
            | (go_at_call 17; (with_reducible refine (K2.out _ _ _ L7.out).mono ?_); rintro e w8 ⟨rfl, hb⟩; have R8 := Lib.hid hb; clear hb)
            | (go_at_call 11; (with_reducible refine (c_awake (RB.refl w8)).mono ?_); rintro e w9 ⟨rfl, hb⟩; have R9 := Lib.hid hb; clear hb))
          go_ret
          exact ⟨rfl, ((((((R2.out.step R3.out).step R4.out).step R5.out).step R6.out).step R7.out).step R8.out).step R9.out⟩
        · have hcb2 : (e2 == 0) = false := by simp [hc2]
          clear hc2 hp2
          go_enter Try.func6, Try.ntmps6
          go_wp2_with (first
            | (go_at_call 10; (with_reducible refine G.out.mono ?_); rintro e w1 ⟨rfl, rfl⟩)
            | (go_at_call 25; (with_reducible refine (c_format l SM.out A c (X.out.rb R0.out) R0.out).mono ?_); rintro e w2 ⟨rfl, hb⟩; have R2 := Lib.hid hb; have T2 : Hid (RB w2 w2) := RB.refl w2; have X2 := Lib.hid (X.out.rb hb); clear hb)
            | (go_at_call 23; (with_reducible refine (P1.out _).mono ?_); rintro e w3 ⟨D, m, rfl, hl, hb⟩; have R3 := Lib.hid hb; have L3 := Lib.hid hl; have X3 := Lib.hid (X2.out.rb hb); clear hb hl)
            | (go_at_call 17; (with_reducible refine (K1.out _ X3.out).mono ?_); rintro e w4 ⟨rfl, hb⟩; have R4 := Lib.hid hb; have X4 := Lib.hid (X3.out.rb hb); have L4 := Lib.hid (L3.out.rb hb); clear hb)
            | (go_at_call 14; (with_reducible refine (c_same l HH.out A D c m X4.out L4.out (RB.refl w4)).mono ?_); rintro e w5 ⟨rfl, hb⟩; have R5 := Lib.hid hb; clear hb)
            | (go_at_call 23; (with_reducible refine (P2.out w5).mono ?_); rintro e w6 ⟨E, n, rfl, hl, hb⟩; have R6 := Lib.hid hb; have L6 := Lib.hid hl; clear hb hl)
            | (go_at_call 11; (with_reducible refine (c_awake (RB.refl w6)).mono ?_); rintro e w9 ⟨rfl, hb⟩; have R9 := Lib.hid hb; clear hb))
          go_ret
          exact ⟨rfl, ((((R2.out.step R3.out).step R4.out).step R5.out).step R6.out).step R9.out⟩
      · have hcb : (chk l == 0) = false := by simp [hc]
        clear hc hp1 hm2
        generalize chk l = q at *
        by_cases hc2 : e2 = 0
        · subst hc2
          obtain ⟨b1, b2⟩ := back_txt hp2
          have hfe : mkS (fmtL m2) = s := by rw [b1, mk_self]
          have hfe3 : ((mkS (fmtL m2)).toList == s.toList) = true := by rw [hfe]; simp
          have K2 : Hid (∀ V E n, LS V V.heap.size E m2 → Calls Try.prog 17 #[.slice E m2.length n] V fun e w' => e = .returned (.int .i64 0) ∧ RB V w') := fun V E n h => by rw [← b2]; exact c_check m2 SM2.out E n h (RB.refl V)
          clear b1 b2 hp2 hfe
          go_enter Try.func6, Try.ntmps6
          go_wp2_with (first
            | (go_at_call 10; (with_reducible refine G.out.mono ?_); rintro e w1 ⟨rfl, rfl⟩)
            | (go_at_call 25; (with_reducible refine (c_format l SM.out A c (X.out.rb R0.out) R0.out).mono ?_); rintro e w2 ⟨rfl, hb⟩; have R2 := Lib.hid hb; have T2 : Hid (RB w2 w2) := RB.refl w2; have X2 := Lib.hid (X.out.rb hb); clear hb)
            | (go_at_call 23; (with_reducible refine (P1.out _).mono ?_); rintro e w3 ⟨D, m, rfl, hl, hb⟩; have R3 := Lib.hid hb; have L3 := Lib.hid hl; have X3 := Lib.hid (X2.out.rb hb); clear hb hl)
            | (go_at_call 17; (with_reducible refine (K1.out _ X3.out).mono ?_); rintro e w4 ⟨rfl, hb⟩; have R4 := Lib.hid hb; have X4 := Lib.hid (X3.out.rb hb); have L4 := Lib.hid (L3.out.rb hb); clear hb)
            
            | (go_at_call 23; (with_reducible refine (P2.out w4).mono ?_); rintro e w6 ⟨E, n, rfl, hl, hb⟩; have R6 := Lib.hid hb; have L6 := Lib.hid hl; clear hb hl)
            | (go_at_call 25; (with_reducible refine (c_format m2 SM2.out E n L6.out (RB.refl w6)).mono ?_); rintro e w7 ⟨rfl, hb⟩; have R7 := Lib.hid hb; have L7 := Lib.hid (L6.out.rb hb); clear hb)
            | (go_at_call 17; (with_reducible refine (K2.out _ _ _ L7.out).mono ?_); rintro e w8 ⟨rfl, hb⟩; have R8 := Lib.hid hb; clear hb)
            | (go_at_call 11; (with_reducible refine (c_awake (RB.refl w8)).mono ?_); rintro e w9 ⟨rfl, hb⟩; have R9 := Lib.hid hb; clear hb))
          go_ret
          exact ⟨rfl, (((((R2.out.step R3.out).step R4.out).step R6.out).step R7.out).step R8.out).step R9.out⟩
        · have hcb2 : (e2 == 0) = false := by simp [hc2]
          clear hc2 hp2
          go_enter Try.func6, Try.ntmps6
          go_wp2_with (first
            | (go_at_call 10; (with_reducible refine G.out.mono ?_); rintro e w1 ⟨rfl, rfl⟩)
            | (go_at_call 25; (with_reducible refine (c_format l SM.out A c (X.out.rb R0.out) R0.out).mono ?_); rintro e w2 ⟨rfl, hb⟩; have R2 := Lib.hid hb; have T2 : Hid (RB w2 w2) := RB.refl w2; have X2 := Lib.hid (X.out.rb hb); clear hb)
            | (go_at_call 23; (with_reducible refine (P1.out _).mono ?_); rintro e w3 ⟨D, m, rfl, hl, hb⟩; have R3 := Lib.hid hb; have L3 := Lib.hid hl; have X3 := Lib.hid (X2.out.rb hb); clear hb hl)
            | (go_at_call 17; (with_reducible refine (K1.out _ X3.out).mono ?_); rintro e w4 ⟨rfl, hb⟩; have R4 := Lib.hid hb; have X4 := Lib.hid (X3.out.rb hb); have L4 := Lib.hid (L3.out.rb hb); clear hb)
            
            | (go_at_call 23; (with_reducible refine (P2.out w4).mono ?_); rintro e w6 ⟨E, n, rfl, hl, hb⟩; have R6 := Lib.hid hb; have L6 := Lib.hid hl; clear hb hl)
            | (go_at_call 11; (with_reducible refine (c_awake (RB.refl w6)).mono ?_); rintro e w9 ⟨rfl, hb⟩; have R9 := Lib.hid hb; clear hb))
          go_ret
          exact ⟨rfl, (((R2.out.step R3.out).step R4.out).step R6.out).step R9.out⟩
end Go.Proofs.Ytbphhdmnfepbnaa.Lab
