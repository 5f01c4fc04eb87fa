/- Layer 5: list of the reference. -/
import Derived.Deep.QuietTactic
import Derived.BigQuiet
import Derived.Test.YtbphhdmnfepbnaaLV
import Derived.Test.YtbphhdmnfepbnaaLS
set_option linter.unusedVariables false
set_option linter.unusedSimpArgs false
namespace Go.Proofs.Ytbphhdmnfepbnaa.Lab
open Go.RowKit
/-- What is to come behind a label. -/
structure After (u : Option (List Lb)) (m : List Lb) (l : List UInt8) : Prop where
  comma : ∀ r, l = 44 :: r → Rest u m r
  last : l = [125] → u = some m
  other : (∀ r, l ≠ 44 :: r) → l ≠ [125] → u = none
theorem After.of {u : Option (List Lb)} {m : List Lb} {l r : List UInt8} {x : Lb} (h : Rest u m l) (hl : labP l = some (x, r)) : After u (m ++ [x]) r := by
  refine ⟨fun q hq => ?_, fun hq => ?_, fun h1 h2 => ?_⟩
  · subst hq; exact h.comma hl
  · subst hq; exact h.last hl
  · cases r with
    | nil => exact h.ends hl
    | cons c q => exact h.bad hl (fun e => h1 q (by rw [e])) (fun e => h2 (by rw [e.1, e.2]))
/-- At the head of a round: at the brace, or behind a label. -/
structure RL (u : Option (List Lb)) (s : ByteArray) (w : World) (j : Nat) (m : List Lb) (vo : Value) (V : World) : Prop where
  own : Own5 V w.heap.size vo m
  bel : Below w.heap.size w V
  len : m.length ≤ j
  st : (j = 0 ∧ Rest u m (s.data.toList.drop (j + 1))) ∨ (0 < j ∧ After u m (s.data.toList.drop j))
structure RLOK (u : Option (List Lb)) (m : List Lb) (b : Bool) : Prop where
  yes : b = true → u = some m
  no : b = false → u = none
def RListPost (u : Option (List Lb)) (s : ByteArray) (w : World) (e : Ending) (w' : World) : Prop :=
  ∃ v m b, e = .returned (.tuple #[v, .bool b]) ∧ Own5 w' w.heap.size v m ∧ Below w.heap.size w w' ∧ RLOK u m b ∧ m.length ≤ s.size
theorem lead_at (p : Nat → Bool) (s : ByteArray) {j q : Nat} (hj : j ≤ q) (hq : q ≤ s.size) (h : ∀ c ∈ (s.data.toList.drop j).take (q - j), p c.toNat = true) (hs : q = s.size ∨ ∃ hlt : q < s.size, p s[q].toNat = false) : lead p (s.data.toList.drop j) = q - j := by
  have hl : (s.data.toList.drop j).length = s.size - j := by rw [List.length_drop, Array.length_toList]; rfl
  rw [lead_take p _ (q - j) h (by omega), List.drop_drop, show j + (q - j) = q by omega]
  rcases hs with rfl | ⟨hlt, hp⟩
  · rw [List.drop_of_length_le (by rw [Array.length_toList]; exact Nat.le_refl _)]
    rfl
  · rw [drop_cons s hlt, lead, if_neg (by simp [hp])]
    rfl
theorem take_step (s : ByteArray) {j q : Nat} (hj : j ≤ q) (hlt : q < s.size) : (s.data.toList.drop j).take (q + 1 - j) = (s.data.toList.drop j).take (q - j) ++ [s[q]] := by
  have h1 : (s.data.toList.drop j)[q - j]? = some s[q] := by
    rw [List.getElem?_drop, show j + (q - j) = q by omega, List.getElem?_eq_getElem (by simpa using hlt)]
    rfl
  rw [show q + 1 - j = q - j + 1 by omega, List.take_add_one, h1]
  rfl
theorem drewN_below (w : World) {B : Nat} (n : Nat) : Below B w (w.drewN n) := ⟨rfl, rfl, rfl, Nat.le_refl _, fun _ _ => rfl⟩
theorem str_braces {s : ByteArray} : (s.toList == [123, 125]) = true ↔ s.data.toList = [123, 125] := by
  rw [beq_iff_eq, ByteArray.toList_eq]
set_option maxRecDepth 100000 in
set_option maxHeartbeats 8000000 in
theorem refList_any (s : ByteArray) (hs : s.size ≤ 100000) (w : World) : Calls Try.prog 47 #[.string s] w (RListPost (txtP s.data.toList) s w) := by
  obtain ⟨i0, hi, hz0, hz1, hz2⟩ := info_parts info29
  have hs1 : s.size ≤ 1000000 := by omega
  have O0 : Hid (Own5 (w.alloc (.cells #[] 29)) w.heap.size (.slice (some ⟨w.heap.size, 0, none⟩) 0 0) []) := World.ownsRow_made w #[] 0 (Nat.le_refl _) (by unfold maxLen; omega) (by simp)
  have B0 : Hid (Below w.heap.size w (w.alloc (.cells #[] 29))) := (Below.refl _ _).alloc (Nat.le_refl _) _
  obtain ⟨u, hu⟩ : ∃ u, u = txtP s.data.toList := ⟨_, rfl⟩
  have HU := Lib.hid hu
  rw [← hu]
  clear hu
  have hdl : s.data.toList.length = s.size := Array.length_toList
  have HDL := Lib.hid hdl
  clear hdl
  cases hbr : (s.toList == [123, 125]) with
  | true =>
    have OK : Hid (RLOK u [] true) := by
      refine ⟨fun _ => ?_, fun h => (by cases h)⟩
      rw [HU.out, str_braces.1 hbr, txtP, if_pos (by rfl), if_pos rfl]
    go_enter Try.func47, Try.ntmps47
    go_wp2
    go_ret2
    exact ⟨_, [], true, rfl, O0.out, B0.out, OK.out, Nat.zero_le _⟩
  | false =>
    have hnb : s.data.toList ≠ [123, 125] := fun e => by rw [str_braces.2 e] at hbr; cases hbr
    have HNB := Lib.hid hnb
    clear hnb
    rcases Nat.eq_zero_or_pos s.size with h0 | h0
    · have he := emp_true h0
      have OK : Hid (RLOK u [] false) := by
        refine ⟨fun h => (by cases h), fun _ => ?_⟩
        rw [HU.out, show s.data.toList = [] from List.eq_nil_of_length_eq_zero (HDL.out.trans h0)]; rfl
      go_enter Try.func47, Try.ntmps47
      go_wp2
      go_ret2
      exact ⟨_, [], false, rfl, O0.out, B0.out, OK.out, Nat.zero_le _⟩
    · have he := emp_false h0
      have D0 : Hid (s.data.toList = s[0] :: s.data.toList.drop 1) := drop_cons s h0
      by_cases h123 : s[0].toNat = 123
      · have t1 : ((s[0].toNat : Int) != 123) = false := by simp; omega
        have L0 : Hid (RL u s w 0 [] (.slice (some ⟨w.heap.size, 0, none⟩) 0 0) (w.alloc (.cells #[] 29))) := by
          refine ⟨O0.out, B0.out, Nat.zero_le _, .inl ⟨rfl, (s.data.toList.drop 1).length + 1, Nat.le_refl _, ?_⟩⟩
          have e2 : s.data.toList.drop 1 ≠ [125] := fun e => HNB.out (by rw [D0.out, e, show s[0] = 123 from UInt8.toNat_inj.1 h123])
          have e1 : u = labsP ((s.data.toList.drop 1).length + 1) (s.data.toList.drop 1) := by
            have h := HU.out
            rw [D0.out, txtP, if_pos h123, if_neg e2] at h
            exact h
          rw [e1]
          show _ = Option.map (fun q => [] ++ q) (labsP ((s.data.toList.drop 1).length + 1) (s.data.toList.drop 1))
          cases labsP ((s.data.toList.drop 1).length + 1) (s.data.toList.drop 1) <;> simp
        clear h123 O0 B0 D0 HNB
        go_enter Try.func47, Try.ntmps47
        go_wp2
        go_loopw [4, 5] (fun vo vi wr => ∃ (j : Nat) (m : List Lb), j ≤ s.size ∧ vi = .int .i64 (j : Int) ∧ Hid (RL u s w j m vo wr)) (fun _ vi _ => s.size - (intOf vi).toNat)
        case atStart => exact ⟨0, [], by omega, rfl, L0⟩
        case round =>
          clear L0 t1 hbr he
          obtain ⟨j, m, hj, rfl, H⟩ := hrel
          have hml : m.length ≤ 1000000 := Nat.le_trans H.out.len (Nat.le_trans hj hs1)
          by_cases hgo : ∃ hlt : j < s.size, j = 0 ∨ s[j].toNat = 44
          · obtain ⟨hlt, hgo⟩ := hgo
            have HQ : Hid (Rest u m (s.data.toList.drop (j + 1))) := by
              rcases H.out.st with ⟨hj0, h⟩ | ⟨hj0, h⟩
              · exact h
              · rcases hgo with h1 | h1
                · omega
                · refine h.comma _ ?_
                  rw [drop_cons s hlt, show s[j] = 44 from UInt8.toNat_inj.1 h1]
            have hg : ((j : Int) == 0) = true ∨ (((j : Int) == 0) = false ∧ ((s[j].toNat : Int) == 44) = true) := by
              rcases hgo with h1 | h1
              · exact .inl (by simp [h1])
              · rcases Nat.eq_zero_or_pos j with h2 | h2
                · exact .inl (by simp [h2])
                · exact .inr ⟨by simp; omega, by simp [h1]⟩
            have HO := Lib.hid H.out.own
            have HB := Lib.hid H.out.bel
            have HM := Lib.hid H.out.len
            clear hgo H
            rcases hg with g1 | ⟨g1, g2⟩
            all_goals
              go_wp2
              obtain ⟨wo, rfl⟩ : ∃ wo : World, wo = wr := ⟨_, rfl⟩
              go_loop [5] (fun vi => ∃ q : Nat, q ≤ s.size ∧ j + 1 ≤ q ∧ vi = .int .i64 (q : Int) ∧ Hid (∀ c ∈ (s.data.toList.drop (j + 1)).take (q - (j + 1)), letterB c.toNat = true)) (fun vi => s.size - (intOf vi).toNat)
              case atStart => exact ⟨j + 1, by omega, Nat.le_refl _, by go_num, by intro c hc; simp at hc⟩
              case round =>
                obtain ⟨q, hq, hjq, rfl, HL⟩ := hrel
                by_cases hin : ∃ hlt2 : q < s.size, letterB s[q].toNat = true
                · obtain ⟨hlt2, hin⟩ := hin
                  have C := Lib.hid (letter_any s[q].toNat wo)
                  rw [hin] at C
                  have HL2 : Hid (∀ c ∈ (s.data.toList.drop (j + 1)).take (q + 1 - (j + 1)), letterB c.toNat = true) := fun c hc => by
                    rw [take_step s hjq hlt2] at hc
                    rcases List.mem_append.1 hc with h | h
                    · exact HL.out c h
                    · simp only [List.mem_singleton] at h
                      rw [h]
                      exact hin
                  clear hin HL
                  go_wp2_with (go_at_call 62; (with_reducible refine C.out.mono ?_); rintro e w' ⟨rfl, rfl⟩)
                  go_round
                  case rel => exact ⟨q + 1, by omega, by omega, by go_num, HL2⟩
                  case measure => simp [intOf]; omega
                · have HLd : Hid (lead letterB (s.data.toList.drop (j + 1)) = q - (j + 1)) := by
                    refine lead_at _ s hjq hq HL.out ?_
                    rcases Nat.lt_or_ge q s.size with h | h
                    · refine .inr ⟨h, ?_⟩
                      rw [← Bool.not_eq_true]
                      exact fun e => hin ⟨h, e⟩
                    · exact .inl (by omega)
                  have HC : Hid (∀ h : q < s.size, Calls Try.prog 62 #[.int .u8 (s[q].toNat : Int)] wo fun e w' => e = .returned (.bool false) ∧ wo = w') := fun h => by
                    have h1 := letter_any s[q].toNat wo
                    rw [show letterB s[q].toNat = false by rw [← Bool.not_eq_true]; exact fun e => hin ⟨h, e⟩] at h1
                    exact h1
                  clear hin HL
                  by_cases hqn : q = j + 1
                  · have HN : Hid (u = none) := HQ.out.none_ (labP_zero (by rw [HLd.out]; omega))
                    have hle : (s.extract (j + 1) q).toList.isEmpty = true := emp_true (by have h := ext_len s (k := j + 1) (n := 0) (by omega); rw [hqn]; exact h)
                    have OK : Hid (RLOK u m false) := ⟨fun h => (by cases h), fun _ => HN.out⟩
                    clear hqn
                    by_cases hlt2 : q < s.size
                    · have C := Lib.hid (HC.out hlt2)
                      go_wp2_with (go_at_call 62; (with_reducible refine C.out.mono ?_); rintro e w' ⟨rfl, rfl⟩)
                      go_ret2
                      exact ⟨_, m, false, rfl, HO.out, HB.out, OK.out, Nat.le_trans HM.out hj⟩
                    · go_wp2
                      go_ret2
                      exact ⟨_, m, false, rfl, HO.out, HB.out, OK.out, Nat.le_trans HM.out hj⟩
                  · have hle : (s.extract (j + 1) q).toList.isEmpty = false := emp_false (by have h := ext_len s (k := j + 1) (n := q - (j + 1)) (by omega); rw [show j + 1 + (q - (j + 1)) = q by omega] at h; omega)
                    by_cases hqq : q + 1 < s.size
                    · have hlt2 : q < s.size := by omega
                      have C := Lib.hid (HC.out hlt2)
                      have DQ : Hid (s.data.toList.drop q = s[q] :: s[q + 1] :: s.data.toList.drop (q + 2)) := by rw [drop_cons s hlt2, drop_cons s hqq]; rfl
                      have hc1 := s[q].toNat_lt
                      have hc2 := s[q + 1].toNat_lt
                      have DD : Hid ((s.data.toList.drop (j + 1)).drop (lead letterB (s.data.toList.drop (j + 1))) = s.data.toList.drop q) := by rw [HLd.out, List.drop_drop, show j + 1 + (q - (j + 1)) = q by omega]; rfl
                      by_cases hm : s[q].toNat = 61 ∧ s[q + 1].toNat = 34
                      · have u1 : ((s[q].toNat : Int) != 61) = false := by simp; omega
                        have u2 : ((s[q + 1].toNat : Int) != 34) = false := by simp; omega
                        have LP : Hid (labP (s.data.toList.drop (j + 1)) = (unq (s.data.toList.drop (q + 2))).map (fun p => (⟨s.extract (j + 1) q, mkS p.1⟩, p.2))) := by
                          rw [labP_yes (by rw [HLd.out]; omega) (by rw [DD.out, DQ.out, show s[q] = 61 from UInt8.toNat_inj.1 hm.1, show s[q + 1] = 34 from UInt8.toNat_inj.1 hm.2])]
                          have e := ext_take s (j + 1) (q - (j + 1))
                          rw [show j + 1 + (q - (j + 1)) = q by omega] at e
                          rw [HLd.out, ← e, mk_self]
                          rfl
                        have RVC := Lib.hid (refValue_any s hs1 (q + 2) (by omega))
                        have hnl : (s.extract (j + 1) q).size ≤ 1000000 := by
                          have h := ext_len s (k := j + 1) (n := q - (j + 1)) (by omega)
                          rw [show j + 1 + (q - (j + 1)) = q by omega] at h
                          omega
                        clear hm hqn HC HLd DD
                        go_wp2_with (go_at_call 62; (with_reducible refine C.out.mono ?_); rintro e w' ⟨rfl, rfl⟩)
                        refine (RVC.out wo).mono ?_
                        rintro e w2 ⟨t, jn, b, rfl, hb2, hrv⟩
                        have HB2 := Lib.hid (HB.out.trans (hb2.mono HB.out.size))
                        have HO2 := Lib.hid (HO.out.below hb2)
                        cases b with
                        | false =>
                          have OK : Hid (RLOK u m false) := ⟨fun h => (by cases h), fun _ => HQ.out.none_ (by rw [LP.out, hrv.no rfl]; rfl)⟩
                          clear hb2 hrv
                          go_wp2
                          go_ret2
                          exact ⟨_, m, false, rfl, HO2.out, HB2.out, OK.out, Nat.le_trans HM.out hj⟩
                        | true =>
                          have AF : Hid (After u (m ++ [⟨s.extract (j + 1) q, t⟩]) (s.data.toList.drop jn)) := After.of HQ.out (by rw [LP.out, hrv.yes rfl]; simp only [Option.map_some]; rw [mk_self])
                          have hjn := hrv.lt rfl
                          clear hb2 hrv
                          go_wp2_with (at_builtin; refine wpList_append_own _ rfl (.tmp 90) (.tmp 94) 22 rfl w.heap.size 29 i0 _ 2 32 Try.underlying22 hi hz0 hz1 hz2 rfl (by decide) u4 _ _ rfl (HO2.out.below ((Below.refl _ _).alloc (Nat.le_refl _) _)) ⟨w2.heap.size, 0, none⟩ 1 1 [.string (s.extract (j + 1) q), .string t] rfl rfl (cell_two_new _ _ _ _) (by simp [Value.oneCell']) (by simp only [maxLen]; omega) (by omega) (by have := HB2.out.size; simp; omega) ?_; intro v5 w5 ho hg _; have O5 := Lib.hid (own5_snoc (x := ⟨s.extract (j + 1) q, t⟩) ho); have B5 := Lib.hid (Below.grown (HB2.out.alloc HB2.out.size (.cells #[.string (s.extract (j + 1) q), .string t] 29)) hg (by have := HB2.out.size; simp; omega) (fun g e => (HO2.out.lt g e).1)); clear ho hg)
                          go_roundw
                          case rel => exact ⟨jn, _, hjn.2, by first | rfl | go_num, ⟨O5.out, B5.out, by have := HM.out; rw [List.length_append, List.length_singleton]; omega, .inr ⟨by omega, AF.out⟩⟩⟩
                          case measure => simp [intOf]; omega
                      · have HN : Hid (u = none) := HQ.out.none_ (labP_no fun r e => by
                          rw [DD.out, DQ.out] at e
                          injection e with e1 e2
                          injection e2 with e2 e3
                          exact hm ⟨by rw [e1]; rfl, by rw [e2]; rfl⟩)
                        have OK : Hid (RLOK u m false) := ⟨fun h => (by cases h), fun _ => HN.out⟩
                        have hms : ((s[q].toNat : Int) != 61) = true ∨ (((s[q].toNat : Int) != 61) = false ∧ ((s[q + 1].toNat : Int) != 34) = true) := by
                          by_cases h1 : s[q].toNat = 61
                          · exact .inr ⟨by simp [h1], by simp; intro h2; exact hm ⟨h1, by omega⟩⟩
                          · exact .inl (by simp; omega)
                        clear hm hqn HC HLd DD DQ
                        rcases hms with u1 | ⟨u1, u2⟩
                        all_goals
                          go_wp2_with (go_at_call 62; (with_reducible refine C.out.mono ?_); rintro e w' ⟨rfl, rfl⟩)
                          go_ret2
                          exact ⟨_, m, false, rfl, HO.out, HB.out, OK.out, Nat.le_trans HM.out hj⟩
                    · have HN : Hid (u = none) := HQ.out.none_ (labP_no fun r e => by
                        rw [HLd.out, List.drop_drop, show j + 1 + (q - (j + 1)) = q by omega] at e
                        have h1 := congrArg List.length e
                        rw [List.length_drop, HDL.out] at h1
                        simp only [List.length_cons] at h1
                        omega)
                      have OK : Hid (RLOK u m false) := ⟨fun h => (by cases h), fun _ => HN.out⟩
                      clear hqn HLd
                      by_cases hlt2 : q < s.size
                      · have C := Lib.hid (HC.out hlt2)
                        go_wp2_with (go_at_call 62; (with_reducible refine C.out.mono ?_); rintro e w' ⟨rfl, rfl⟩)
                        go_ret2
                        exact ⟨_, m, false, rfl, HO.out, HB.out, OK.out, Nat.le_trans HM.out hj⟩
                      · go_wp2
                        go_ret2
                        exact ⟨_, m, false, rfl, HO.out, HB.out, OK.out, Nat.le_trans HM.out hj⟩
          · have h0j : 0 < j := by
              rcases Nat.eq_zero_or_pos j with h | h
              · exact absurd ⟨by omega, .inl h⟩ hgo
              · exact h
            have AF : Hid (After u m (s.data.toList.drop j)) := by
              rcases H.out.st with ⟨h1, _⟩ | ⟨_, h⟩
              · omega
              · exact h
            have HO := Lib.hid H.out.own
            have HB := Lib.hid H.out.bel
            have HM := Lib.hid H.out.len
            have hw : IntKind.i64.wrap ((s.size : Int) - 1) = (s.size : Int) - 1 := IntWalk.i64_in _ (by omega)
            have g1 : ((j : Int) == 0) = false := by simp; omega
            by_cases hlt : j < s.size
            · have D := Lib.hid (drop_cons s hlt)
              have h44 : ¬ s[j].toNat = 44 := fun h => hgo ⟨hlt, .inr h⟩
              have g2 : ((s[j].toNat : Int) == 44) = false := by simp; omega
              have NC : Hid (∀ r, s.data.toList.drop j ≠ 44 :: r) := fun r e => by
                rw [D.out] at e
                injection e with e1 e2
                exact h44 (by rw [e1]; rfl)
              by_cases hl : j + 1 = s.size
              · have g3 : ((j : Int) == (s.size : Int) - 1) = true := by simp; omega
                have DN : Hid (s.data.toList.drop (j + 1) = []) := List.drop_of_length_le (by rw [HDL.out]; omega)
                by_cases h125 : s[j].toNat = 125
                · have g4 : ((s[j].toNat : Int) == 125) = true := by simp [h125]
                  have OK : Hid (RLOK u m true) := ⟨fun _ => AF.out.last (by rw [D.out, DN.out, show s[j] = 125 from UInt8.toNat_inj.1 h125]), fun h => (by cases h)⟩
                  clear hgo H h44 h125 hl AF D DN NC
                  go_wp2
                  go_quiet (fail)
                  go_wp2
                  go_ret2
                  exact ⟨_, m, true, rfl, HO.out.below (drewN_below _ _), HB.out.trans (drewN_below _ _), OK.out, Nat.le_trans HM.out hj⟩
                · have g4 : ((s[j].toNat : Int) == 125) = false := by simp; omega
                  have OK : Hid (RLOK u m false) := ⟨fun h => (by cases h), fun _ => AF.out.other NC.out (fun e => by
                    rw [D.out] at e
                    injection e with e1 e2
                    exact h125 (by rw [e1]; rfl))⟩
                  clear hgo H h44 h125 hl AF D DN NC
                  go_wp2
                  go_quiet (fail)
                  go_wp2
                  go_ret2
                  exact ⟨_, m, false, rfl, HO.out.below (drewN_below _ _), HB.out.trans (drewN_below _ _), OK.out, Nat.le_trans HM.out hj⟩
              · have g3 : ((j : Int) == (s.size : Int) - 1) = false := by simp; omega
                have OK : Hid (RLOK u m false) := ⟨fun h => (by cases h), fun _ => AF.out.other NC.out (fun e => by
                  have h1 := congrArg List.length e
                  rw [List.length_drop, HDL.out, List.length_singleton] at h1
                  omega)⟩
                clear hgo H h44 hl AF D NC
                go_wp2
                go_quiet (fail)
                go_wp2
                go_ret2
                exact ⟨_, m, false, rfl, HO.out.below (drewN_below _ _), HB.out.trans (drewN_below _ _), OK.out, Nat.le_trans HM.out hj⟩
            · have g3 : ((j : Int) == (s.size : Int) - 1) = false := by simp; omega
              have DN : Hid (s.data.toList.drop j = []) := List.drop_of_length_le (by rw [HDL.out]; omega)
              have OK : Hid (RLOK u m false) := ⟨fun h => (by cases h), fun _ => AF.out.other (fun r e => by rw [DN.out] at e; cases e) (fun e => by rw [DN.out] at e; cases e)⟩
              clear hgo H AF DN
              go_wp2
              go_quiet (fail)
              go_wp2
              go_ret2
              exact ⟨_, m, false, rfl, HO.out.below (drewN_below _ _), HB.out.trans (drewN_below _ _), OK.out, Nat.le_trans HM.out hj⟩
      · have t1 : ((s[0].toNat : Int) != 123) = true := by simp; omega
        have OK : Hid (RLOK u [] false) := by
          refine ⟨fun h => (by cases h), fun _ => ?_⟩
          have h := HU.out
          rw [D0.out, txtP, if_neg h123] at h
          exact h
        clear h123 D0 HNB
        go_enter Try.func47, Try.ntmps47
        go_wp2
        go_ret2
        exact ⟨_, [], false, rfl, O0.out, B0.out, OK.out, Nat.zero_le _⟩
end Go.Proofs.Ytbphhdmnfepbnaa.Lab
