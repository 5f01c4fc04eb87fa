/- Layer 5: the walk of LabelsProject. -/
import Derived.Deep.QuietTactic
import Derived.BigQuiet
import Derived.Test.YtbphhdmnfepbnaaMK
set_option linter.unusedVariables false
set_option linter.unusedSimpArgs false
namespace Go.Proofs.Ytbphhdmnfepbnaa.Lab
open Go.RowKit
theorem keep_full (b : Bool) (ns : List ByteArray) (l : List Lb) {j : Nat} (h : l.length ≤ j) : keepL b ns (l.take j) = keepL b ns l := by rw [List.take_of_length_le h]
theorem keep_lens {b : Bool} {ns : List ByteArray} {l : List Lb} {j : Nat} (hj : j < l.length) (h : hasB ns l[j].n = b) :
    (keepL b ns (l.take (j + 1))).length = (keepL b ns (l.take j)).length + 1 ∧ (keepL (!b) ns (l.take (j + 1))).length = (keepL (!b) ns (l.take j)).length := by
  constructor
  · rw [keepL_yes hj h, List.length_append, List.length_singleton]
  · rw [keepL_no hj (by rw [h, Bool.not_not])]
set_option maxRecDepth 100000 in
set_option maxHeartbeats 8000000 in
theorem project_walk (A : Option Addr) (c : Nat) (l : List Lb) (hm : l.length ≤ maxLen) (hz : ∀ x ∈ l, x.n.size ≤ maxLen ∧ x.v.size ≤ maxLen)
    (C : Option Addr) (d : Nat) (ns : List ByteArray) (hn : ns.length ≤ maxLen) (hnz : ∀ s ∈ ns, s.size ≤ maxLen) (w : World) (hL : LS w w.heap.size A l) (hC : SS w w.heap.size C ns) :
    Calls Try.prog 7 #[.slice A l.length c, .slice C ns.length d] w fun e w' => e = .returned (.bool true) ∧ Below w.heap.size w w' := by
  have G := Lib.hid (c_great1 l hm hz A c w hL)
  have R0 : Hid (RB w (w.alloc (.cells #[.slice A l.length c] 22))) := (RB.refl w).alloc _
  have X := Lib.hid hL
  have Y := Lib.hid hC
  have HN := Lib.hid hn
  unfold maxLen at hm hn
  clear hL hC hz hnz
  cases hg : greatL l with
  | true =>
    rw [hg] at G
    clear hg
    go_enter Try.func7, Try.ntmps7
    go_wp2_with (first
      | (go_at_call 10; (with_reducible refine G.out.mono ?_); rintro e w1 ⟨rfl, rfl⟩)
      | (go_at_call 11; (with_reducible refine (c_awake R0.out).mono ?_); rintro e w2 ⟨rfl, hb⟩; have R2 := Lib.hid hb; clear hb))
    go_ret
    exact ⟨rfl, R2.out⟩
  | false =>
    have hsm := great_sm hg
    have SM := Lib.hid hsm
    have hl17 := hsm.len
    rw [hg] at G
    clear hg hsm
    by_cases h3 : 10 < ns.length
    · go_enter Try.func7, Try.ntmps7
      go_wp2_with (first
        | (go_at_call 10; (with_reducible refine G.out.mono ?_); rintro e w1 ⟨rfl, rfl⟩)
        | (go_at_call 11; (with_reducible refine (c_awake R0.out).mono ?_); rintro e w2 ⟨rfl, hb⟩; have R2 := Lib.hid hb; clear hb))
      go_ret
      exact ⟨rfl, R2.out⟩
    · obtain ⟨a, ha⟩ : ∃ a, keepL true ns l = a := ⟨_, rfl⟩
      obtain ⟨b, hb⟩ : ∃ b, keepL false ns l = b := ⟨_, rfl⟩
      have hla : a.length ≤ 17 := by rw [← ha]; exact Nat.le_trans (keepL_len _ _ _) hl17
      have hlb : b.length ≤ 17 := by rw [← hb]; exact Nat.le_trans (keepL_len _ _ _) hl17
      have SA : Hid (Sm a) := by rw [← ha]; exact SM.out.keep _ _
      have SB : Hid (Sm b) := by rw [← hb]; exact SM.out.keep _ _
      have C19 : Hid (∀ V, RB w V → Calls Try.prog 19 #[.slice A l.length c, .slice C ns.length d] V (MadePost V a)) := fun V h => by rw [← ha]; exact c_keep l SM.out A c ns HN.out C d (X.out.rb h) (Y.out.rb h) (RB.refl V)
      have C21 : Hid (∀ V, RB w V → Calls Try.prog 21 #[.slice A l.length c, .slice C ns.length d] V (MadePost V b)) := fun V h => by rw [← hb]; exact c_drop l SM.out A c ns HN.out C d (X.out.rb h) (Y.out.rb h) (RB.refl V)
      have HA := Lib.hid ha
      have HB := Lib.hid hb
      clear ha hb
      go_enter Try.func7, Try.ntmps7
      go_wp2_with (first
        | (go_at_call 10; (with_reducible refine G.out.mono ?_); rintro e w1 ⟨rfl, rfl⟩)
        | (go_at_call 19; (with_reducible refine (C19.out _ R0.out).mono ?_); rintro e w1 ⟨D, m, rfl, hl, hb⟩; have R1 := Lib.hid (R0.out.step hb); have L1 := Lib.hid hl; clear hb hl)
        | (go_at_call 21; (with_reducible refine (C21.out _ R1.out).mono ?_); rintro e w2 ⟨E, n, rfl, hl, hb⟩; have R2 := Lib.hid (R1.out.step hb); have L2 := Lib.hid hl; have M2 := Lib.hid (L1.out.rb hb); clear hb hl))
      have XX := Lib.hid (X.out.rb R2.out)
      have YY := Lib.hid (Y.out.rb R2.out)
      have Z0 : Hid (RB w2 w2) := RB.refl w2
      go_loopw [7, 8, 29] (fun vi vk vj wr => ∃ (i k j : Nat), j ≤ l.length ∧ i ≤ 17 ∧ k ≤ 17 ∧ vi = .int .i64 (i : Int) ∧ vk = .int .i64 (k : Int) ∧ vj = .int .i64 (j : Int) ∧ Hid ((keepL true ns (l.take j)).length = i ∧ (keepL false ns (l.take j)).length = k) ∧ Hid (RB w2 wr)) (fun _ _ vj _ => l.length - (intOf vj).toNat)
      case atStart => exact ⟨0, 0, 0, by omega, by omega, by omega, rfl, rfl, rfl, ⟨rfl, rfl⟩, Z0⟩
      case round =>
        obtain ⟨i, k, j, hj, hi, hk, rfl, rfl, rfl, HI, HW⟩ := hrel
        by_cases hlt : j < l.length
        · obtain ⟨bl, off, rfl, hbl', h1', h2'⟩ := (XX.out.rb HW.out).at_ hlt
          have h1 := h1'
          have h2 := h2'
          have hbl := hbl'
          clear h1' h2' hbl'
          have RA : Hid (RB w2 (wr.alloc (.cells #[.string l[j].n, .string l[j].v] 29))) := HW.out.alloc _
          have CC := Lib.hid (contains_any ns HN.out l[j].n C d _ (wr.alloc (.cells #[.string l[j].n, .string l[j].v] 29)) (YY.out.rb RA.out))
          have hne := fun w => neq_label l[j].n l[j].v l[j].n l[j].v w
          simp only [beq_self_eq_true, Bool.and_self, Bool.not_true] at hne
          cases hb : hasB ns l[j].n with
          | true =>
            obtain ⟨hia, hea⟩ := keep_at hlt hb
            obtain ⟨q1, q2⟩ := keep_lens hlt hb
            rw [hb] at CC
            have hcell := M2.out.rb HW.out
            have HE : ∃ h : i < a.length, a[i] = l[j] := by
              have e1 := HI.out.1
              have e2 := HA.out
              subst e1
              subst e2
              exact ⟨hia, hea⟩
            obtain ⟨hia2, hea2⟩ := HE
            obtain ⟨ba, offa, rfl, hba, g1, g2⟩ := hcell.at_ hia2
            rw [hea2] at g1 g2
            have Q : Hid ((keepL true ns (l.take (j + 1))).length = i + 1 ∧ (keepL false ns (l.take (j + 1))).length = k) := ⟨by rw [q1, HI.out.1], by rw [show (!true) = false from rfl] at q2; rw [q2, HI.out.2]⟩
            have d1 : decide (a.length ≤ i) = false := decide_eq_false (by omega)
            have d2 : decide ((a.length : Int) ≤ (i : Int)) = false := decide_eq_false (by omega)
            clear hb hia hea q1 q2 hcell hea2 HI
            generalize l[j] = x at *
            go_wp2_with (go_at_call 33; (with_reducible refine CC.out.mono ?_); rintro e w9 ⟨rfl, rfl⟩)
            go_quiet (fail)
            go_wp2
            go_roundw
            case rel => exact ⟨i + 1, k, j + 1, by omega, by omega, by omega, by go_num, rfl, by go_num, Q, RA.out.drewN _⟩
            case measure => simp [intOf]; omega
          | false =>
            obtain ⟨hia, hea⟩ := keep_at hlt hb
            obtain ⟨q1, q2⟩ := keep_lens hlt hb
            rw [hb] at CC
            have hcell := L2.out.rb HW.out
            have HE : ∃ h : k < b.length, b[k] = l[j] := by
              have e1 := HI.out.2
              have e2 := HB.out
              subst e1
              subst e2
              exact ⟨hia, hea⟩
            obtain ⟨hia2, hea2⟩ := HE
            obtain ⟨ba, offa, rfl, hba, g1, g2⟩ := hcell.at_ hia2
            rw [hea2] at g1 g2
            have Q : Hid ((keepL true ns (l.take (j + 1))).length = i ∧ (keepL false ns (l.take (j + 1))).length = k + 1) := ⟨by rw [show (!false) = true from rfl] at q2; rw [q2, HI.out.1], by rw [q1, HI.out.2]⟩
            have d1 : decide (b.length ≤ k) = false := decide_eq_false (by omega)
            have d2 : decide ((b.length : Int) ≤ (k : Int)) = false := decide_eq_false (by omega)
            clear hb hia hea q1 q2 hcell hea2 HI
            generalize l[j] = x at *
            go_wp2_with (go_at_call 33; (with_reducible refine CC.out.mono ?_); rintro e w9 ⟨rfl, rfl⟩)
            go_quiet (fail)
            go_wp2
            go_roundw
            case rel => exact ⟨i, k + 1, j + 1, by omega, by omega, by omega, rfl, by go_num, by go_num, Q, RA.out.drewN _⟩
            case measure => simp [intOf]; omega
        · have hia : i = a.length := by rw [← HI.out.1, keep_full true ns l (by omega), HA.out]
          have hkb : k = b.length := by rw [← HI.out.2, keep_full false ns l (by omega), HB.out]
          subst hia hkb
          have X2 := Lib.hid (XX.out.rb HW.out)
          have A2 := Lib.hid (M2.out.rb HW.out)
          have B2 := Lib.hid (L2.out.rb HW.out)
          have K1 : Hid (Calls Try.prog 17 #[.slice A l.length c] wr fun e w' => e = .returned (.int .i64 (chk l)) ∧ RB wr w') := c_check l SM.out A c X2.out (RB.refl wr)
          have R3 := Lib.hid (R2.out.step HW.out)
          by_cases hc : chk l = 0
          · have ha0 : chk a = 0 := by rw [← HA.out]; exact chk_keep true ns hc
            have hb0 : chk b = 0 := by rw [← HB.out]; exact chk_keep false ns hc
            have K2 : Hid (∀ V, RB wr V → Calls Try.prog 17 #[.slice D a.length m] V fun e w' => e = .returned (.int .i64 0) ∧ RB wr w') := fun V h => by rw [← ha0]; exact c_check a SA.out D m (A2.out.rb h) h
            have K3 : Hid (∀ V, RB wr V → Calls Try.prog 17 #[.slice E b.length n] V fun e w' => e = .returned (.int .i64 0) ∧ RB wr w') := fun V h => by rw [← hb0]; exact c_check b SB.out E n (B2.out.rb h) h
            rw [hc] at K1
            clear hc ha0 hb0 HI
            go_wp2_with (first
              | (go_at_call 17; (with_reducible refine K1.out.mono ?_); rintro e w3 ⟨rfl, hb⟩; have T3 := Lib.hid hb; clear hb)
              | (go_at_call 17; (with_reducible refine (K2.out _ T3.out).mono ?_); rintro e w4 ⟨rfl, hb⟩; have T4 := Lib.hid hb; clear hb)
              | (go_at_call 17; (with_reducible refine (K3.out _ T4.out).mono ?_); rintro e w5 ⟨rfl, hb⟩; have T5 := Lib.hid hb; clear hb)
              | (go_at_call 11; (with_reducible refine (c_awake T5.out).mono ?_); rintro e w6 ⟨rfl, hb⟩; have T6 := Lib.hid hb; clear hb))
            go_ret
            exact ⟨rfl, R3.out.step T6.out⟩
          · have hcb : (chk l == 0) = false := by simp [hc]
            clear hc HI
            generalize chk l = q at *
            go_wp2_with (first
              | (go_at_call 17; (with_reducible refine K1.out.mono ?_); rintro e w3 ⟨rfl, hb⟩; have T3 := Lib.hid hb; clear hb)
              | (go_at_call 11; (with_reducible refine (c_awake T3.out).mono ?_); rintro e w6 ⟨rfl, hb⟩; have T6 := Lib.hid hb; clear hb))
            go_ret
            exact ⟨rfl, R3.out.step T6.out⟩
end Go.Proofs.Ytbphhdmnfepbnaa.Lab
