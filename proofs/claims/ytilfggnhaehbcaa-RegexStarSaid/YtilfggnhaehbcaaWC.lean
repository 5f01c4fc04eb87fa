/- Layer 6: the walk of the law on sequences. -/
import Derived.Test.YtilfggnhaehbcaaWE
set_option linter.unusedVariables false
set_option linter.unusedSimpArgs false
namespace Go.Proofs.Ytilfggnhaehbcaa.Rx
open Go.RowKit
theorem take_data (s : ByteArray) {k : Nat} (h : k ≤ s.size) : (s.extract 0 k).data.toList = s.data.toList.take k := by simp [ByteArray.data_extract]
theorem drop_data (s : ByteArray) (k : Nat) : (s.extract k s.size).data.toList = s.data.toList.drop k := by
  rw [ByteArray.data_extract, Array.toList_extract, List.extract_eq_take_drop]
  apply List.take_of_length_le
  rw [List.length_drop, size_len]
  omega
theorem sub_size (s : ByteArray) (i k : Nat) (h : k ≤ s.size) : (s.extract i k).size ≤ s.size := by rw [ByteArray.size_extract]; omega
set_option maxHeartbeats 4000000 in
set_option maxRecDepth 100000 in
theorem concat_walk (p q s : ByteArray) (hp : p.size ≤ 140737488351232) (hq : q.size ≤ 140737488351232) (hs : s.size ≤ 140737488351232) (w : World) : Calls Try.prog 7 #[.string p, .string q, .string s] w (EmpP true w) := by
  have hp' : p.size ≤ maxLen := by unfold maxLen; omega
  have hq' : q.size ≤ maxLen := by unfold maxLen; omega
  have hs' : s.size ≤ maxLen := by unfold maxLen; omega
  have KA := Lib.hid (fun V => awake_any V)
  have KG := Lib.hid (fun b c V (h : V.cell? ⟨b, 0, none⟩ = some (.string p)) (h1 : V.cell? ⟨b, 1, none⟩ = some (.string q)) => great_two hs' hp' hq' b c V h h1)
  have B : Hid (Below w.heap.size w (w.alloc (.cells #[.string p, .string q] 9))) := (Below.refl _ _).alloc (Nat.le_refl _) _
  have sb := concat_size p q
  have hbm : (⟨#[40]⟩ ++ p ++ ⟨#[41, 40]⟩ ++ q ++ ⟨#[41]⟩ : ByteArray).size ≤ maxLen := by unfold maxLen; omega
  have hbd := concat_data p q
  obtain ⟨bo, hbo⟩ : ∃ bo : ByteArray, bo = ⟨#[40]⟩ ++ p ++ ⟨#[41, 40]⟩ ++ q ++ ⟨#[41]⟩ := ⟨_, rfl⟩
  rw [← hbo] at sb hbm hbd
  have HBO := Lib.hid hbo
  have SB := Lib.hid sb
  clear hbo sb
  cases hg : greatS s [p, q] with
  | true =>
    rw [hg] at KG
    clear hbm hbd
    go_enter Try.func7, Try.ntmps7
    go_wp2_with (first
      | (go_at_call 13; (with_reducible refine (KG.out _ _ _ (by simp) (by simp)).mono ?_); rintro e wz0 ⟨rfl, rfl⟩)
      | (go_at_call 14; (with_reducible refine (KA.out _).mono ?_); rintro e w9 ⟨rfl, b9⟩; replace B : Hid (Below w.heap.size w w9) := B.out.trans (b9.out.mono B.out.size); clear b9))
    go_ret
    exact ⟨rfl, B⟩
  | false =>
    rw [hg] at KG
    have h1 := (great_no hg).1 p (by simp)
    have h2 := (great_no hg).1 q (by simp)
    have h3 := (great_no hg).2
    have KP := Lib.hid (fun V => check_is hp' rfl V)
    have KQ := Lib.hid (fun V => check_is hq' rfl V)
    have KB : Hid (∀ V, Calls Try.prog 17 #[.string (⟨#[40]⟩ ++ p ++ ⟨#[41, 40]⟩ ++ q ++ ⟨#[41]⟩)] V (ChkP (check bo.data.toList) V)) := fun V => by rw [← HBO.out]; exact check_is hbm rfl V
    by_cases hc : check p.data.toList = 0
    · by_cases hd : check q.data.toList = 0
      · by_cases hb : check bo.data.toList = 0
        · obtain ⟨r, hr⟩ := check_parse hc
          obtain ⟨r', hr'⟩ := check_parse hd
          have pb := parse_concat hr hr'
          rw [← hbd] at pb
          have KM : Hid (∀ (x : ByteArray), x.size ≤ 40 → ∃ m : Bool, (m = true ↔ Mat r x.data.toList) ∧ ∀ V, Calls Try.prog 23 #[.string p, .string x] V (EmpP m V)) := fun x hx => by
            obtain ⟨m, hm, hm2⟩ := match_exists p x hp' (by omega)
            rw [mat_is hc hr] at hm
            exact ⟨m, hm, hm2⟩
          have KN : Hid (∀ (x : ByteArray), x.size ≤ 40 → ∃ m : Bool, (m = true ↔ Mat r' x.data.toList) ∧ ∀ V, Calls Try.prog 23 #[.string q, .string x] V (EmpP m V)) := fun x hx => by
            obtain ⟨m, hm, hm2⟩ := match_exists q x hq' (by omega)
            rw [mat_is hd hr'] at hm
            exact ⟨m, hm, hm2⟩
          have KO : Hid (∀ m : Bool, (m = true ↔ ∃ i, i ≤ s.data.toList.length ∧ Mat r (s.data.toList.take i) ∧ Mat r' (s.data.toList.drop i)) → ∀ V, Calls Try.prog 23 #[.string bo, .string s] V (EmpP m V)) := fun m hm V => match_is hbm (by omega) (by rw [mat_is hb pb, concat_mat, split_iff]; exact hm) V
          have H3 := Lib.hid h3
          rw [hc] at KP
          rw [hd] at KQ
          rw [hb] at KB
          clear hc hd hb hr hr' pb hg hbm hbd
          go_enter Try.func7, Try.ntmps7
          go_upto_region 4 with (first
            | (go_at_call 13; (with_reducible refine (KG.out _ _ _ (by simp) (by simp)).mono ?_); rintro e wz0 ⟨rfl, rfl⟩)
            | (go_at_call 17; (with_reducible refine (KP.out _).mono ?_); rintro e w1 ⟨rfl, b1⟩; replace B : Hid (Below w.heap.size w w1) := B.out.trans (b1.out.mono B.out.size); clear b1)
            | (go_at_call 17; (with_reducible refine (KQ.out _).mono ?_); rintro e w2 ⟨rfl, b2⟩; replace B : Hid (Below w.heap.size w w2) := B.out.trans (b2.out.mono B.out.size); clear b2)
            | (go_at_call 17; (with_reducible refine (KB.out _).mono ?_); rintro e w3 ⟨rfl, b3⟩; replace B : Hid (Below w.heap.size w w3) := B.out.trans (b3.out.mono B.out.size); clear b3))
          generalize (⟨#[40]⟩ ++ p ++ ⟨#[41, 40]⟩ ++ q ++ ⟨#[41]⟩ : ByteArray) = bz at *
          obtain rfl : bo = bz := HBO.out
          clear HBO KG KP KQ KB SB h1 h2
          go_wp2_with fail
          go_loopw [8, 40] (fun v vi wr => ∃ (b : Bool) (k : Nat), k ≤ s.size + 1 ∧ v = .bool b ∧ vi = .int .i64 k ∧ Hid (b = true ↔ ∃ i, i < k ∧ Mat r (s.data.toList.take i) ∧ Mat r' (s.data.toList.drop i)) ∧ Hid (Below w.heap.size w wr)) (fun v vi _ => s.size + 1 - (intOf vi).toNat)
          case atStart => exact ⟨false, 0, Nat.zero_le _, rfl, rfl, ⟨fun h => (by cases h), fun ⟨i, h, _⟩ => by omega⟩, B⟩
          case round =>
            obtain ⟨b, k, hk, rfl, rfl, HI, B⟩ := hrel
            by_cases hlt : k < s.size + 1
            · have hlt' : (k : Int) < (s.size : Int) + 1 := by omega
              have hj0 : (0 : Int) ≤ (k : Int) := Int.natCast_nonneg _
              have hj1 : (k : Int) ≤ (s.size : Int) := by omega
              cases b with
              | true =>
                have HN : Hid (true = true ↔ ∃ i, i < k + 1 ∧ Mat r (s.data.toList.take i) ∧ Mat r' (s.data.toList.drop i)) := by
                  obtain ⟨i, h1, h2⟩ := HI.out.1 rfl
                  exact ⟨fun _ => ⟨i, by omega, h2⟩, fun _ => rfl⟩
                clear HI
                go_wp2_with fail
                go_roundw
                case rel => exact ⟨true, k + 1, by omega, rfl, by go_num, HN, B⟩
                case measure => simp [intOf]; omega
              | false =>
                obtain ⟨m1, hm1, K1⟩ := KM.out (s.extract 0 k) (by rw [ByteArray.size_extract]; omega)
                obtain ⟨m2, hm2, K2⟩ := KN.out (s.extract k s.size) (by rw [ByteArray.size_extract]; omega)
                rw [take_data s (by omega)] at hm1
                rw [drop_data] at hm2
                have HN : Hid ((m1 && m2) = true ↔ ∃ i, i < k + 1 ∧ Mat r (s.data.toList.take i) ∧ Mat r' (s.data.toList.drop i)) := by
                  show (m1 && m2) = true ↔ _
                  rw [Bool.and_eq_true, hm1, hm2]
                  constructor
                  · rintro ⟨h1, h2⟩
                    exact ⟨k, by omega, h1, h2⟩
                  · rintro ⟨i, h1, h2, h3⟩
                    rcases Nat.lt_or_ge i k with h4 | h4
                    · have := HI.out.2 ⟨i, h4, h2, h3⟩
                      cases this
                    · obtain rfl : i = k := by omega
                      exact ⟨h2, h3⟩
                have K1 := Lib.hid K1
                have K2 := Lib.hid K2
                clear hm1 hm2 HI
                cases m1 with
                | true =>
                  go_wp2_with (first
                    | (go_at_call 23; (with_reducible refine (K1.out _).mono ?_); rintro e w4 ⟨rfl, b4⟩; replace B : Hid (Below w.heap.size w w4) := B.out.trans (b4.out.mono B.out.size); clear b4)
                    | (go_at_call 23; (with_reducible refine (K2.out _).mono ?_); rintro e w5 ⟨rfl, b5⟩; replace B : Hid (Below w.heap.size w w5) := B.out.trans (b5.out.mono B.out.size); clear b5))
                  go_roundw
                  case rel => exact ⟨m2, k + 1, by omega, rfl, by go_num, HN, B⟩
                  case measure => simp [intOf]; omega
                | false =>
                  go_wp2_with (first
                    | (go_at_call 23; (with_reducible refine (K1.out _).mono ?_); rintro e w4 ⟨rfl, b4⟩; replace B : Hid (Below w.heap.size w w4) := B.out.trans (b4.out.mono B.out.size); clear b4)
                    | (go_at_call 23; (with_reducible refine (K2.out _).mono ?_); rintro e w5 ⟨rfl, b5⟩; replace B : Hid (Below w.heap.size w w5) := B.out.trans (b5.out.mono B.out.size); clear b5))
                  go_roundw
                  case rel => exact ⟨false, k + 1, by omega, rfl, by go_num, HN, B⟩
                  case measure => simp [intOf]; omega
            · obtain rfl : k = s.size + 1 := by omega
              have KZ := Lib.hid (KO.out b (by rw [HI.out, size_len]; exact ⟨fun ⟨i, h1, h2⟩ => ⟨i, by omega, h2⟩, fun ⟨i, h1, h2⟩ => ⟨i, by omega, h2⟩⟩))
              clear HI KO
              have hge : ¬ (((s.size + 1 : Nat) : Int) < (s.size : Int) + 1) := by omega
              cases b with
              | true =>
                go_wp2_with (first
                  | (go_at_call 23; (with_reducible refine (KZ.out _).mono ?_); rintro e w6 ⟨rfl, b6⟩; replace B : Hid (Below w.heap.size w w6) := B.out.trans (b6.out.mono B.out.size); clear b6)
                  | (go_at_call 14; (with_reducible refine (KA.out _).mono ?_); rintro e w9 ⟨rfl, b9⟩; replace B : Hid (Below w.heap.size w w9) := B.out.trans (b9.out.mono B.out.size); clear b9))
                go_ret
                exact ⟨rfl, B⟩
              | false =>
                go_wp2_with (first
                  | (go_at_call 23; (with_reducible refine (KZ.out _).mono ?_); rintro e w6 ⟨rfl, b6⟩; replace B : Hid (Below w.heap.size w w6) := B.out.trans (b6.out.mono B.out.size); clear b6)
                  | (go_at_call 14; (with_reducible refine (KA.out _).mono ?_); rintro e w9 ⟨rfl, b9⟩; replace B : Hid (Below w.heap.size w w9) := B.out.trans (b9.out.mono B.out.size); clear b9))
                go_ret
                exact ⟨rfl, B⟩
        · have hcb : (check bo.data.toList != 0) = true := by simpa using hb
          rw [hc] at KP
          rw [hd] at KQ
          generalize check bo.data.toList = c at *
          clear hbm hbd
          go_enter Try.func7, Try.ntmps7
          go_wp2_with (first
            | (go_at_call 13; (with_reducible refine (KG.out _ _ _ (by simp) (by simp)).mono ?_); rintro e wz0 ⟨rfl, rfl⟩)
            | (go_at_call 17; (with_reducible refine (KP.out _).mono ?_); rintro e w1 ⟨rfl, b1⟩; replace B : Hid (Below w.heap.size w w1) := B.out.trans (b1.out.mono B.out.size); clear b1)
            | (go_at_call 17; (with_reducible refine (KQ.out _).mono ?_); rintro e w2 ⟨rfl, b2⟩; replace B : Hid (Below w.heap.size w w2) := B.out.trans (b2.out.mono B.out.size); clear b2)
            | (go_at_call 17; (with_reducible refine (KB.out _).mono ?_); rintro e w3 ⟨rfl, b3⟩; replace B : Hid (Below w.heap.size w w3) := B.out.trans (b3.out.mono B.out.size); clear b3)
            | (go_at_call 14; (with_reducible refine (KA.out _).mono ?_); rintro e w9 ⟨rfl, b9⟩; replace B : Hid (Below w.heap.size w w9) := B.out.trans (b9.out.mono B.out.size); clear b9))
          go_ret
          exact ⟨rfl, B⟩
      · have hcb : (check q.data.toList != 0) = true := by simpa using hd
        rw [hc] at KP
        generalize check q.data.toList = c at *
        clear hbm hbd
        go_enter Try.func7, Try.ntmps7
        go_wp2_with (first
          | (go_at_call 13; (with_reducible refine (KG.out _ _ _ (by simp) (by simp)).mono ?_); rintro e wz0 ⟨rfl, rfl⟩)
          | (go_at_call 17; (with_reducible refine (KP.out _).mono ?_); rintro e w1 ⟨rfl, b1⟩; replace B : Hid (Below w.heap.size w w1) := B.out.trans (b1.out.mono B.out.size); clear b1)
          | (go_at_call 17; (with_reducible refine (KQ.out _).mono ?_); rintro e w2 ⟨rfl, b2⟩; replace B : Hid (Below w.heap.size w w2) := B.out.trans (b2.out.mono B.out.size); clear b2)
          | (go_at_call 14; (with_reducible refine (KA.out _).mono ?_); rintro e w9 ⟨rfl, b9⟩; replace B : Hid (Below w.heap.size w w9) := B.out.trans (b9.out.mono B.out.size); clear b9))
        go_ret
        exact ⟨rfl, B⟩
    · have hcb : (check p.data.toList != 0) = true := by simpa using hc
      generalize check p.data.toList = c at *
      clear hbm hbd
      go_enter Try.func7, Try.ntmps7
      go_wp2_with (first
        | (go_at_call 13; (with_reducible refine (KG.out _ _ _ (by simp) (by simp)).mono ?_); rintro e wz0 ⟨rfl, rfl⟩)
        | (go_at_call 17; (with_reducible refine (KP.out _).mono ?_); rintro e w1 ⟨rfl, b1⟩; replace B : Hid (Below w.heap.size w w1) := B.out.trans (b1.out.mono B.out.size); clear b1)
        | (go_at_call 14; (with_reducible refine (KA.out _).mono ?_); rintro e w9 ⟨rfl, b9⟩; replace B : Hid (Below w.heap.size w w9) := B.out.trans (b9.out.mono B.out.size); clear b9))
      go_ret
      exact ⟨rfl, B⟩
end Go.Proofs.Ytilfggnhaehbcaa.Rx
