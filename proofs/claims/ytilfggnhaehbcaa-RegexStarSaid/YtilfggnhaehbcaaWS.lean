/- Layer 6: the walk of the law on repetition. -/
import Derived.Deep.DeepCutAuto
import Derived.Deep.RegionWith
import Derived.Test.YtilfggnhaehbcaaWC
set_option linter.unusedVariables false
set_option linter.unusedSimpArgs false
namespace Go.Proofs.Ytilfggnhaehbcaa.Rx
open Go.RowKit
set_option maxHeartbeats 4000000 in
set_option maxRecDepth 100000 in
theorem star_walk (p s : ByteArray) (hp : p.size ≤ 140737488351232) (hs : s.size ≤ 140737488351232) (w : World) : Calls Try.prog 8 #[.string p, .string s] w (EmpP true w) := by
  have hp' : p.size ≤ maxLen := by unfold maxLen; omega
  have hs' : s.size ≤ maxLen := by unfold maxLen; omega
  have KA := Lib.hid (fun V => awake_any V)
  have KG := Lib.hid (fun b c V (h : V.cell? ⟨b, 0, none⟩ = some (.string p)) => great_one hs' hp' b c V h)
  have B : Hid (Below w.heap.size w (w.alloc (.cells #[.string p] 9))) := (Below.refl _ _).alloc (Nat.le_refl _) _
  have s1 := rep_size p 42
  have s2 := rep_size p 43
  have d1 := rep_data p 42
  have d2 := rep_data p 43
  obtain ⟨bm, hbm⟩ : ∃ bm : ByteArray, bm = ⟨#[40]⟩ ++ p ++ ⟨#[41, 42]⟩ := ⟨_, rfl⟩
  obtain ⟨bn, hbn⟩ : ∃ bn : ByteArray, bn = ⟨#[40]⟩ ++ p ++ ⟨#[41, 43]⟩ := ⟨_, rfl⟩
  rw [← hbm] at s1 d1
  rw [← hbn] at s2 d2
  have m1 : bm.size ≤ maxLen := by unfold maxLen; omega
  have m2 : bn.size ≤ maxLen := by unfold maxLen; omega
  have HBM := Lib.hid hbm
  have HBN := Lib.hid hbn
  have S1 := Lib.hid s1
  have S2 := Lib.hid s2
  clear hbm hbn s1 s2
  cases hg : greatS s [p] with
  | true =>
    rw [hg] at KG
    clear m1 m2 d1 d2
    go_enter Try.func8, Try.ntmps8
    go_wp2_with (first
      | (go_at_call 13; (with_reducible refine (KG.out _ _ _ (by simp)).mono ?_); rintro e wz0 ⟨rfl, rfl⟩)
      | (go_at_call 14; (with_reducible refine (KA.out _).mono ?_); rintro e w9 ⟨rfl, b9⟩; replace B : Hid (Below w.heap.size w w9) := B.out.trans (b9.out.mono B.out.size); clear b9))
    go_ret
    exact ⟨rfl, B⟩
  | false =>
    rw [hg] at KG
    have h1 := (great_no hg).1 p (by simp)
    have h3 := (great_no hg).2
    have KP := Lib.hid (fun V => check_is hp' rfl V)
    have KQ : Hid (∀ V, Calls Try.prog 17 #[.string (⟨#[40]⟩ ++ p ++ ⟨#[41, 42]⟩)] V (ChkP (check bm.data.toList) V)) := fun V => by rw [← HBM.out]; exact check_is m1 rfl V
    by_cases hc : check p.data.toList = 0
    · by_cases hd : check bm.data.toList = 0
      · obtain ⟨r, hr⟩ := check_parse hc
        have pm : parse bm.data.toList = some (.alt [.cat [.star r]]) := by rw [d1]; exact parse_rep hr (by decide)
        have pn : parse bn.data.toList = some (.alt [.cat [.plus r]]) := by rw [d2]; exact parse_rep hr (by decide)
        have hdn : check bn.data.toList = 0 := by
          rw [check_of pn, size_len, S2.out]
          rw [check_of pm, size_len, S1.out] at hd
          exact hd
        have KM : Hid (∀ (x : ByteArray), x.size ≤ 40 → ∃ m : Bool, (m = true ↔ Mat r x.data.toList) ∧ ∀ V, Calls Try.prog 23 #[.string p, .string x] V (EmpP m V)) := fun x hx => by
          obtain ⟨m, hm, hm2⟩ := match_exists p x hp' (by omega)
          rw [mat_is hc hr] at hm
          exact ⟨m, hm, hm2⟩
        have KN : Hid (∀ (x : ByteArray), x.size ≤ 40 → ∃ m : Bool, (m = true ↔ Mat (.star r) x.data.toList) ∧ ∀ V, Calls Try.prog 23 #[.string bm, .string x] V (EmpP m V)) := fun x hx => by
          obtain ⟨m, hm, hm2⟩ := match_exists bm x m1 (by omega)
          rw [mat_is hd pm, one_mat] at hm
          exact ⟨m, hm, hm2⟩
        have KO : Hid (∀ m : Bool, (m = true ↔ s.data.toList = [] ∨ ∃ i, 0 < i ∧ i ≤ s.data.toList.length ∧ Mat r (s.data.toList.take i) ∧ Mat (.star r) (s.data.toList.drop i)) → ∀ V, Calls Try.prog 23 #[.string bm, .string s] V (EmpP m V)) := fun m hm V => match_is m1 (by omega) (by rw [mat_is hd pm, one_mat, star_split]; exact hm) V
        have KW : Hid (∀ m : Bool, (m = true ↔ ∃ i, i ≤ s.data.toList.length ∧ Mat r (s.data.toList.take i) ∧ Mat (.star r) (s.data.toList.drop i)) → ∀ V, Calls Try.prog 23 #[.string bn, .string s] V (EmpP m V)) := fun m hm V => match_is m2 (by omega) (by rw [mat_is hdn pn, one_mat, plus_split]; exact hm) V
        rw [hc] at KP
        rw [hd] at KQ
        clear hc hd hdn hr pm pn hg d1 d2 m1 m2
        have SE : Hid (s.toList.isEmpty = true ↔ s.data.toList = []) := size_pos
        go_enter Try.func8, Try.ntmps8
        go_upto_region 4 with (first
          | (go_at_call 13; (with_reducible refine (KG.out _ _ _ (by simp)).mono ?_); rintro e wz0 ⟨rfl, rfl⟩)
          | (go_at_call 17; (with_reducible refine (KP.out _).mono ?_); rintro e w1 ⟨rfl, b1⟩; replace B : Hid (Below w.heap.size w w1) := B.out.trans (b1.out.mono B.out.size); clear b1)
          | (go_at_call 17; (with_reducible refine (KQ.out _).mono ?_); rintro e w2 ⟨rfl, b2⟩; replace B : Hid (Below w.heap.size w w2) := B.out.trans (b2.out.mono B.out.size); clear b2))
        generalize (⟨#[40]⟩ ++ p ++ ⟨#[41, 42]⟩ : ByteArray) = bz at *
        obtain rfl : bm = bz := HBM.out
        generalize (⟨#[40]⟩ ++ p ++ ⟨#[41, 43]⟩ : ByteArray) = by_ at *
        obtain rfl : bn = by_ := HBN.out
        clear HBM HBN KG KP KQ S1 S2 h1
        go_wp2_with fail
        generalize s.toList.isEmpty = em at *
        go_loopw [7, 8, 38] (fun v v2 vi wr => ∃ (b b2 : Bool) (k : Nat), k ≤ s.size + 1 ∧ v = .bool b ∧ v2 = .bool b2 ∧ vi = .int .i64 k ∧ Hid (b = true ↔ s.data.toList = [] ∨ ∃ i, i < k ∧ 0 < i ∧ Mat r (s.data.toList.take i) ∧ Mat (.star r) (s.data.toList.drop i)) ∧ Hid (b2 = true ↔ ∃ i, i < k ∧ Mat r (s.data.toList.take i) ∧ Mat (.star r) (s.data.toList.drop i)) ∧ Hid (Below w.heap.size w wr)) (fun v v2 vi _ => s.size + 1 - (intOf vi).toNat)
        case atStart => exact ⟨em, false, 0, Nat.zero_le _, rfl, rfl, rfl, by (show _ ↔ _; rw [SE.out]; exact ⟨.inl, fun h => h.resolve_right (fun ⟨i, h, _⟩ => by omega)⟩), ⟨fun h => (by cases h), fun ⟨i, h, _⟩ => by omega⟩, B⟩
        case round =>
          obtain ⟨b, b2, k, hk, rfl, rfl, rfl, HI, HJ, B⟩ := hrel
          by_cases hlt : k < s.size + 1
          · have hlt' : (k : Int) < (s.size : Int) + 1 := by omega
            have hj0 : (0 : Int) ≤ (k : Int) := Int.natCast_nonneg _
            have hj1 : (k : Int) ≤ (s.size : Int) := by omega
            obtain ⟨m1, hm1, K1⟩ := KM.out (s.extract 0 k) (by rw [ByteArray.size_extract]; omega)
            obtain ⟨m2, hm2, K2⟩ := KN.out (s.extract k s.size) (by rw [ByteArray.size_extract]; omega)
            rw [take_data s (by omega)] at hm1
            rw [drop_data] at hm2
            obtain ⟨z, hz⟩ := bool_of (0 < k)
            have HN : Hid ((b || (z && (m1 && m2))) = true ↔ s.data.toList = [] ∨ ∃ i, i < k + 1 ∧ 0 < i ∧ Mat r (s.data.toList.take i) ∧ Mat (.star r) (s.data.toList.drop i)) := by
              show _ ↔ _
              rw [Bool.or_eq_true, Bool.and_eq_true, Bool.and_eq_true, hm1, hm2, hz, HI.out]
              constructor
              · rintro ((h | ⟨i, h1, h2⟩) | ⟨h1, h2, h3⟩)
                · exact .inl h
                · exact .inr ⟨i, by omega, h2⟩
                · exact .inr ⟨k, by omega, h1, h2, h3⟩
              · rintro (h | ⟨i, h1, h2, h3, h4⟩)
                · exact .inl (.inl h)
                · rcases Nat.lt_or_ge i k with h5 | h5
                  · exact .inl (.inr ⟨i, h5, h2, h3, h4⟩)
                  · obtain rfl : i = k := by omega
                    exact .inr ⟨h2, h3, h4⟩
            have HM : Hid ((b2 || (m1 && m2)) = true ↔ ∃ i, i < k + 1 ∧ Mat r (s.data.toList.take i) ∧ Mat (.star r) (s.data.toList.drop i)) := by
              show _ ↔ _
              rw [Bool.or_eq_true, Bool.and_eq_true, hm1, hm2, HJ.out]
              constructor
              · rintro (⟨i, h1, h2⟩ | ⟨h1, h2⟩)
                · exact ⟨i, by omega, h2⟩
                · exact ⟨k, by omega, h1, h2⟩
              · rintro ⟨i, h1, h2, h3⟩
                rcases Nat.lt_or_ge i k with h5 | h5
                · exact .inl ⟨i, h5, h2, h3⟩
                · obtain rfl : i = k := by omega
                  exact .inr ⟨h2, h3⟩
            have K1 := Lib.hid K1
            have K2 := Lib.hid K2
            have HZ := Lib.hid hz
            clear hm1 hm2 HI HJ hz KM KN KO KW SE
            go_upto_region 8 with fail
            go_cut [10, 11] (fun x y wx => x = .bool m1 ∧ y = .bool m2 ∧ Hid (Below w.heap.size w wx))
            case first =>
              have D : Hid (Below w.heap.size w wr.drew) := B.out.drew
              go_region_with (first
                | (go_at_call 23; (with_reducible refine (K1.out _).mono ?_); rintro e w4 ⟨rfl, b4⟩; first | (have D1 : Hid (Below w.heap.size w w4) := D.out.trans (b4.out.mono D.out.size)) | (have D1 : Hid (Below w.heap.size w w4) := D2.out.trans (b4.out.mono D2.out.size)))
                | (go_at_call 23; (with_reducible refine (K2.out _).mono ?_); rintro e w5 ⟨rfl, b5⟩; first | (have D2 : Hid (Below w.heap.size w w5) := D.out.trans (b5.out.mono D.out.size)) | (have D2 : Hid (Below w.heap.size w w5) := D1.out.trans (b5.out.mono D1.out.size))))
              all_goals
                try (go_wp2_with fail)
                go_meet
                case rel => first | exact ⟨rfl, rfl, D2⟩ | exact ⟨rfl, rfl, D1⟩
            case rest =>
              obtain ⟨rfl, rfl, B⟩ := hcut
              clear K1 K2
              cases hzz : z with
              | true =>
                have hk0 : (0 : Int) < (k : Int) := by have := HZ.out.1 hzz; omega
                rw [hzz] at HN
                clear hzz HZ
                cases b <;> cases b2 <;> cases m1
                all_goals
                  go_wp2_with fail
                  go_roundw
                  case rel => exact ⟨_, _, k + 1, by omega, rfl, rfl, by go_num, HN, HM, B⟩
                  case measure => simp [intOf]; omega
              | false =>
                obtain rfl : k = 0 := by
                  rcases Nat.eq_zero_or_pos k with h | h
                  · exact h
                  · rw [HZ.out.2 h] at hzz; cases hzz
                rw [hzz] at HN
                clear hzz HZ
                cases b <;> cases b2 <;> cases m1
                all_goals
                  go_wp2_with fail
                  go_roundw
                  case rel => exact ⟨_, _, 0 + 1, by omega, rfl, rfl, by go_num, HN, HM, B⟩
                  case measure => first | (simp [intOf]; done) | (simp [intOf]; omega)
          · obtain rfl : k = s.size + 1 := by omega
            have KZ := Lib.hid (KO.out b (by rw [HI.out, size_len]; exact or_congr_right ⟨fun ⟨i, h1, h2, h3⟩ => ⟨i, h2, by omega, h3⟩, fun ⟨i, h1, h2, h3⟩ => ⟨i, by omega, h1, h3⟩⟩))
            have KY := Lib.hid (KW.out b2 (by rw [HJ.out, size_len]; exact ⟨fun ⟨i, h1, h2⟩ => ⟨i, by omega, h2⟩, fun ⟨i, h1, h2⟩ => ⟨i, by omega, h2⟩⟩))
            clear HI HJ KO KW KM KN SE
            have hge : ¬ (((s.size + 1 : Nat) : Int) < (s.size : Int) + 1) := by omega
            cases b <;> cases b2
            all_goals
              go_wp2_with (first
                  | (go_at_call 23; (with_reducible refine (KZ.out _).mono ?_); rintro e w6 ⟨rfl, b6⟩; replace B : Hid (Below w.heap.size w w6) := B.out.trans (b6.out.mono B.out.size); clear b6)
                  | (go_at_call 23; (with_reducible refine (KY.out _).mono ?_); rintro e w7 ⟨rfl, b7⟩; replace B : Hid (Below w.heap.size w w7) := B.out.trans (b7.out.mono B.out.size); clear b7)
                  | (go_at_call 14; (with_reducible refine (KA.out _).mono ?_); rintro e w9 ⟨rfl, b9⟩; replace B : Hid (Below w.heap.size w w9) := B.out.trans (b9.out.mono B.out.size); clear b9))
              go_ret
              exact ⟨rfl, B⟩
      · have hcb : (check bm.data.toList != 0) = true := by simpa using hd
        rw [hc] at KP
        generalize check bm.data.toList = c at *
        clear m1 m2 d1 d2
        go_enter Try.func8, Try.ntmps8
        go_wp2_with (first
          | (go_at_call 13; (with_reducible refine (KG.out _ _ _ (by simp)).mono ?_); rintro e wz0 ⟨rfl, rfl⟩)
          | (go_at_call 17; (with_reducible refine (KP.out _).mono ?_); rintro e w1 ⟨rfl, b1⟩; replace B : Hid (Below w.heap.size w w1) := B.out.trans (b1.out.mono B.out.size); clear b1)
          | (go_at_call 17; (with_reducible refine (KQ.out _).mono ?_); rintro e w2 ⟨rfl, b2⟩; replace B : Hid (Below w.heap.size w w2) := B.out.trans (b2.out.mono B.out.size); clear b2)
          | (go_at_call 14; (with_reducible refine (KA.out _).mono ?_); rintro e w9 ⟨rfl, b9⟩; replace B : Hid (Below w.heap.size w w9) := B.out.trans (b9.out.mono B.out.size); clear b9))
        go_ret
        exact ⟨rfl, B⟩
    · have hcb : (check p.data.toList != 0) = true := by simpa using hc
      generalize check p.data.toList = c at *
      clear m1 m2 d1 d2
      go_enter Try.func8, Try.ntmps8
      go_wp2_with (first
        | (go_at_call 13; (with_reducible refine (KG.out _ _ _ (by simp)).mono ?_); rintro e wz0 ⟨rfl, rfl⟩)
        | (go_at_call 17; (with_reducible refine (KP.out _).mono ?_); rintro e w1 ⟨rfl, b1⟩; replace B : Hid (Below w.heap.size w w1) := B.out.trans (b1.out.mono B.out.size); clear b1)
        | (go_at_call 14; (with_reducible refine (KA.out _).mono ?_); rintro e w9 ⟨rfl, b9⟩; replace B : Hid (Below w.heap.size w w9) := B.out.trans (b9.out.mono B.out.size); clear b9))
      go_ret
      exact ⟨rfl, B⟩
end Go.Proofs.Ytilfggnhaehbcaa.Rx
