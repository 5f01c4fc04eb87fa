/- Layer 6: the walk of the law on alternatives. -/
import Derived.Deep.DeepCutAuto
import Derived.Test.YtilfggnhaehbcaaWP
set_option linter.unusedVariables false
set_option linter.unusedSimpArgs false
namespace Go.Proofs.Ytilfggnhaehbcaa.Rx
open Go.RowKit
theorem cat_data (a b : ByteArray) : (a ++ b).data.toList = a.data.toList ++ b.data.toList := by rw [ByteArray.data_append, Array.toList_append]
theorem cat_size (a b : ByteArray) : (a ++ b).size = a.size + b.size := ByteArray.size_append
theorem lit1 (c : UInt8) : (⟨#[c]⟩ : ByteArray).data.toList = [c] := rfl
theorem lit2 (c d : UInt8) : (⟨#[c, d]⟩ : ByteArray).data.toList = [c, d] := rfl
theorem lit3 (c d e : UInt8) : (⟨#[c, d, e]⟩ : ByteArray).data.toList = [c, d, e] := rfl
theorem either_data (p q : ByteArray) : (⟨#[40]⟩ ++ p ++ ⟨#[41, 124, 40]⟩ ++ q ++ ⟨#[41]⟩ : ByteArray).data.toList = 40 :: (p.data.toList ++ 41 :: 124 :: 40 :: (q.data.toList ++ [41])) := by
  simp only [cat_data, lit1, lit3]
  simp
theorem concat_data (p q : ByteArray) : (⟨#[40]⟩ ++ p ++ ⟨#[41, 40]⟩ ++ q ++ ⟨#[41]⟩ : ByteArray).data.toList = 40 :: (p.data.toList ++ 41 :: 40 :: (q.data.toList ++ [41])) := by
  simp only [cat_data, lit1, lit2]
  simp
theorem rep_data (p : ByteArray) (c : UInt8) : (⟨#[40]⟩ ++ p ++ ⟨#[41, c]⟩ : ByteArray).data.toList = 40 :: (p.data.toList ++ [41, c]) := by
  simp only [cat_data, lit1, lit2]
  simp
theorem either_size (p q : ByteArray) : (⟨#[40]⟩ ++ p ++ ⟨#[41, 124, 40]⟩ ++ q ++ ⟨#[41]⟩ : ByteArray).size = p.size + q.size + 5 := by
  rw [← size_len, either_data]
  simp
  omega
theorem concat_size (p q : ByteArray) : (⟨#[40]⟩ ++ p ++ ⟨#[41, 40]⟩ ++ q ++ ⟨#[41]⟩ : ByteArray).size = p.size + q.size + 4 := by
  rw [← size_len, concat_data]
  simp
  omega
theorem rep_size (p : ByteArray) (c : UInt8) : (⟨#[40]⟩ ++ p ++ ⟨#[41, c]⟩ : ByteArray).size = p.size + 3 := by
  rw [← size_len, rep_data]
  simp
theorem check_of {l : List UInt8} {r : Re} (hp : parse l = some r) : check l = if l.length ≤ 200 then 0 else 4 := by
  unfold check
  by_cases h : 200 < l.length
  · rw [if_pos h, if_neg (show ¬ l.length ≤ 200 by omega)]
  · rw [if_neg h, if_pos (show (parse l).isSome = true by rw [hp]; rfl), if_pos (show l.length ≤ 200 by omega)]
theorem size_pos {s : ByteArray} : s.toList.isEmpty = true ↔ s.data.toList = [] := by rw [bytes_list, List.isEmpty_iff]
set_option maxHeartbeats 4000000 in
set_option maxRecDepth 100000 in
theorem either_walk (p q s : ByteArray) (hp : p.size ≤ maxLen) (hq : q.size ≤ maxLen) (hs : s.size ≤ maxLen) (w : World) : Calls Try.prog 6 #[.string p, .string q, .string s] w (EmpP true w) := by
  have KA := Lib.hid (fun V => awake_any V)
  have KG := Lib.hid (fun b c V (h : V.cell? ⟨b, 0, none⟩ = some (.string p)) (h1 : V.cell? ⟨b, 1, none⟩ = some (.string q)) => great_two hs hp hq b c V h h1)
  have B : Hid (Below w.heap.size w (w.alloc (.cells #[.string p, .string q] 9))) := (Below.refl _ _).alloc (Nat.le_refl _) _
  cases hg : greatS s [p, q] with
  | true =>
    rw [hg] at KG
    go_enter Try.func6, Try.ntmps6
    go_wp2_with (first
      | (go_at_call 13; (with_reducible refine (KG.out _ _ _ (by simp) (by simp)).mono ?_); rintro e wz0 ⟨rfl, rfl⟩)
      | (go_at_call 14; (with_reducible refine (KA.out _).mono ?_); rintro e w9 ⟨rfl, b9⟩; replace B : Hid (Below w.heap.size w w9) := B.out.trans (b9.out.mono B.out.size); clear b9))
    go_ret
    exact ⟨rfl, B⟩
  | false =>
    rw [hg] at KG
    have h1 := (great_no hg).1 p (by simp)
    have h2 := (great_no hg).1 q (by simp)
    have h3 := (great_no hg).2
    by_cases hc : check p.data.toList = 0
    · by_cases hd : check q.data.toList = 0
      · obtain ⟨r, hr⟩ := check_parse hc
        obtain ⟨r', hr'⟩ := check_parse hd
        have KP := Lib.hid (fun V => check_is hp hc V)
        have KQ := Lib.hid (fun V => check_is hq hd V)
        have pb := parse_either hr hr'
        rw [← either_data] at pb
        have pm := parse_rep hr (c := 63) (by decide)
        rw [← rep_data] at pm
        have sb := either_size p q
        have sm := rep_size p 63
        have cb := check_of pb
        have cm := check_of pm
        rw [size_len, sb] at cb
        rw [size_len, sm] at cm
        obtain ⟨mp, hmp, hmp2⟩ := match_exists p s hp (by omega)
        obtain ⟨mq, hmq, hmq2⟩ := match_exists q s hq (by omega)
        rw [mat_is hc hr] at hmp
        rw [mat_is hd hr'] at hmq
        have KMP := Lib.hid hmp2
        have KMQ := Lib.hid hmq2
        have KCB := Lib.hid (fun V => check_is (p := ⟨#[40]⟩ ++ p ++ ⟨#[41, 124, 40]⟩ ++ q ++ ⟨#[41]⟩) (by unfold maxLen; omega) cb V)
        have KCM := Lib.hid (fun V => check_is (p := ⟨#[40]⟩ ++ p ++ ⟨#[41, 63]⟩) (by unfold maxLen; omega) cm V)
        have KMB : Hid (p.size + q.size + 5 ≤ 200 → ∀ V, Calls Try.prog 23 #[.string (⟨#[40]⟩ ++ p ++ ⟨#[41, 124, 40]⟩ ++ q ++ ⟨#[41]⟩), .string s] V (EmpP (mp || mq) V)) := fun h V => by
          rw [if_pos h] at cb
          exact match_is (by unfold maxLen; omega) (by omega) (by rw [mat_is cb pb, either_mat, Bool.or_eq_true, hmp, hmq]) V
        have KMM : Hid (p.size + 3 ≤ 200 → ∀ V, Calls Try.prog 23 #[.string (⟨#[40]⟩ ++ p ++ ⟨#[41, 63]⟩), .string s] V (EmpP (s.toList.isEmpty || mp) V)) := fun h V => by
          rw [if_pos h] at cm
          exact match_is (by unfold maxLen; omega) (by omega) (by rw [mat_is cm pm]; show _ ↔ Mat (.alt [.cat [.alt [.cat [], r]]]) _; rw [maybe_mat, Bool.or_eq_true, hmp, size_pos]) V
        have SB := Lib.hid sb
        have SM := Lib.hid sm
        clear hmp hmq hmp2 hmq2 cb cm pb pm hr hr' hc hd hg sb sm
        go_enter Try.func6, Try.ntmps6
        go_upto_region 4 with (first
          | (go_at_call 13; (with_reducible refine (KG.out _ _ _ (by simp) (by simp)).mono ?_); rintro e wz0 ⟨rfl, rfl⟩)
          | (go_at_call 17; (with_reducible refine (KP.out _).mono ?_); rintro e w1 ⟨rfl, b1⟩; replace B : Hid (Below w.heap.size w w1) := B.out.trans (b1.out.mono B.out.size); clear b1)
          | (go_at_call 17; (with_reducible refine (KQ.out _).mono ?_); rintro e w2 ⟨rfl, b2⟩; replace B : Hid (Below w.heap.size w w2) := B.out.trans (b2.out.mono B.out.size); clear b2))
        generalize (⟨#[40]⟩ ++ p ++ ⟨#[41, 124, 40]⟩ ++ q ++ ⟨#[41]⟩ : ByteArray) = bo at *
        generalize (⟨#[40]⟩ ++ p ++ ⟨#[41, 63]⟩ : ByteArray) = bm at *
        go_cut [50] (fun c wx => c = .bool false ∧ Hid (Below w.heap.size w wx))
        case first =>
          by_cases hcb : p.size + q.size + 5 ≤ 200
          · rw [if_pos hcb] at KCB
            replace KMB := Lib.hid (KMB.out hcb)
            cases mp with
            | true =>
              go_wp2_with (first
                  | (go_at_call 17; (with_reducible refine (KCB.out _).mono ?_); rintro e w3 ⟨rfl, b3⟩; replace B : Hid (Below w.heap.size w w3) := B.out.trans (b3.out.mono B.out.size); clear b3)
                  | (go_at_call 23; (with_reducible refine (KMB.out _).mono ?_); rintro e w7 ⟨rfl, b7⟩; replace B : Hid (Below w.heap.size w w7) := B.out.trans (b7.out.mono B.out.size); clear b7)
                  | (go_at_call 23; (with_reducible refine (KMP.out _).mono ?_); rintro e w5 ⟨rfl, b5⟩; replace B : Hid (Below w.heap.size w w5) := B.out.trans (b5.out.mono B.out.size); clear b5)
                  | (go_at_call 23; (with_reducible refine (KMQ.out _).mono ?_); rintro e w6 ⟨rfl, b6⟩; replace B : Hid (Below w.heap.size w w6) := B.out.trans (b6.out.mono B.out.size); clear b6))
              go_meet
              case rel => exact ⟨rfl, B⟩
            | false =>
              cases mq with
              | true =>
                go_wp2_with (first
                  | (go_at_call 17; (with_reducible refine (KCB.out _).mono ?_); rintro e w3 ⟨rfl, b3⟩; replace B : Hid (Below w.heap.size w w3) := B.out.trans (b3.out.mono B.out.size); clear b3)
                  | (go_at_call 23; (with_reducible refine (KMB.out _).mono ?_); rintro e w7 ⟨rfl, b7⟩; replace B : Hid (Below w.heap.size w w7) := B.out.trans (b7.out.mono B.out.size); clear b7)
                  | (go_at_call 23; (with_reducible refine (KMP.out _).mono ?_); rintro e w5 ⟨rfl, b5⟩; replace B : Hid (Below w.heap.size w w5) := B.out.trans (b5.out.mono B.out.size); clear b5)
                  | (go_at_call 23; (with_reducible refine (KMQ.out _).mono ?_); rintro e w6 ⟨rfl, b6⟩; replace B : Hid (Below w.heap.size w w6) := B.out.trans (b6.out.mono B.out.size); clear b6))
                go_meet
                case rel => exact ⟨rfl, B⟩
              | false =>
                go_wp2_with (first
                  | (go_at_call 17; (with_reducible refine (KCB.out _).mono ?_); rintro e w3 ⟨rfl, b3⟩; replace B : Hid (Below w.heap.size w w3) := B.out.trans (b3.out.mono B.out.size); clear b3)
                  | (go_at_call 23; (with_reducible refine (KMB.out _).mono ?_); rintro e w7 ⟨rfl, b7⟩; replace B : Hid (Below w.heap.size w w7) := B.out.trans (b7.out.mono B.out.size); clear b7)
                  | (go_at_call 23; (with_reducible refine (KMP.out _).mono ?_); rintro e w5 ⟨rfl, b5⟩; replace B : Hid (Below w.heap.size w w5) := B.out.trans (b5.out.mono B.out.size); clear b5)
                  | (go_at_call 23; (with_reducible refine (KMQ.out _).mono ?_); rintro e w6 ⟨rfl, b6⟩; replace B : Hid (Below w.heap.size w w6) := B.out.trans (b6.out.mono B.out.size); clear b6))
                go_meet
                case rel => exact ⟨rfl, B⟩
          · rw [if_neg hcb] at KCB
            go_wp2_with (first
                  | (go_at_call 17; (with_reducible refine (KCB.out _).mono ?_); rintro e w3 ⟨rfl, b3⟩; replace B : Hid (Below w.heap.size w w3) := B.out.trans (b3.out.mono B.out.size); clear b3))
            go_meet
            case rel => exact ⟨rfl, B⟩
        case rest =>
          obtain ⟨rfl, B⟩ := hcut
          go_upto_region 6 with fail
          go_cut [66] (fun c wx => c = .bool false ∧ Hid (Below w.heap.size w wx))
          case first =>
            by_cases hcb : p.size + 3 ≤ 200
            · rw [if_pos hcb] at KCM
              replace KMM := Lib.hid (KMM.out hcb)
              cases he : s.toList.isEmpty with
              | true =>
                rw [he] at KMM
                go_wp2_with (first
                  | (go_at_call 17; (with_reducible refine (KCM.out _).mono ?_); rintro e w4 ⟨rfl, b4⟩; replace B : Hid (Below w.heap.size w w4) := B.out.trans (b4.out.mono B.out.size); clear b4)
                  | (go_at_call 23; (with_reducible refine (KMM.out _).mono ?_); rintro e w8 ⟨rfl, b8⟩; replace B : Hid (Below w.heap.size w w8) := B.out.trans (b8.out.mono B.out.size); clear b8)
                  | (go_at_call 23; (with_reducible refine (KMP.out _).mono ?_); rintro e w5 ⟨rfl, b5⟩; replace B : Hid (Below w.heap.size w w5) := B.out.trans (b5.out.mono B.out.size); clear b5))
                go_meet
                case rel => exact ⟨rfl, B⟩
              | false =>
                rw [he] at KMM
                cases mp with
                | true =>
                  go_wp2_with (first
                  | (go_at_call 17; (with_reducible refine (KCM.out _).mono ?_); rintro e w4 ⟨rfl, b4⟩; replace B : Hid (Below w.heap.size w w4) := B.out.trans (b4.out.mono B.out.size); clear b4)
                  | (go_at_call 23; (with_reducible refine (KMM.out _).mono ?_); rintro e w8 ⟨rfl, b8⟩; replace B : Hid (Below w.heap.size w w8) := B.out.trans (b8.out.mono B.out.size); clear b8)
                  | (go_at_call 23; (with_reducible refine (KMP.out _).mono ?_); rintro e w5 ⟨rfl, b5⟩; replace B : Hid (Below w.heap.size w w5) := B.out.trans (b5.out.mono B.out.size); clear b5))
                  go_meet
                  case rel => exact ⟨rfl, B⟩
                | false =>
                  go_wp2_with (first
                  | (go_at_call 17; (with_reducible refine (KCM.out _).mono ?_); rintro e w4 ⟨rfl, b4⟩; replace B : Hid (Below w.heap.size w w4) := B.out.trans (b4.out.mono B.out.size); clear b4)
                  | (go_at_call 23; (with_reducible refine (KMM.out _).mono ?_); rintro e w8 ⟨rfl, b8⟩; replace B : Hid (Below w.heap.size w w8) := B.out.trans (b8.out.mono B.out.size); clear b8)
                  | (go_at_call 23; (with_reducible refine (KMP.out _).mono ?_); rintro e w5 ⟨rfl, b5⟩; replace B : Hid (Below w.heap.size w w5) := B.out.trans (b5.out.mono B.out.size); clear b5))
                  go_meet
                  case rel => exact ⟨rfl, B⟩
            · rw [if_neg hcb] at KCM
              go_wp2_with (first
                  | (go_at_call 17; (with_reducible refine (KCM.out _).mono ?_); rintro e w4 ⟨rfl, b4⟩; replace B : Hid (Below w.heap.size w w4) := B.out.trans (b4.out.mono B.out.size); clear b4))
              go_meet
              case rel => exact ⟨rfl, B⟩
          case rest =>
            obtain ⟨rfl, B⟩ := hcut
            have sb := SB.out
            have sm := SM.out
            by_cases hcb : p.size + q.size + 5 ≤ 200
            · rw [if_pos hcb] at KCB
              have l1 : (bo.size : Int) ≤ 200 := by omega
              have hcm : p.size + 3 ≤ 200 := by omega
              rw [if_pos hcm] at KCM
              have l2 : (bm.size : Int) ≤ 200 := by omega
              clear sb sm
              go_wp2_with (first
                  | (go_at_call 17; (with_reducible refine (KCB.out _).mono ?_); rintro e w3 ⟨rfl, b3⟩; replace B : Hid (Below w.heap.size w w3) := B.out.trans (b3.out.mono B.out.size); clear b3)
                  | (go_at_call 17; (with_reducible refine (KCM.out _).mono ?_); rintro e w4 ⟨rfl, b4⟩; replace B : Hid (Below w.heap.size w w4) := B.out.trans (b4.out.mono B.out.size); clear b4)
                  | (go_at_call 14; (with_reducible refine (KA.out _).mono ?_); rintro e w9 ⟨rfl, b9⟩; replace B : Hid (Below w.heap.size w w9) := B.out.trans (b9.out.mono B.out.size); clear b9))
              go_ret
              exact ⟨rfl, B⟩
            · rw [if_neg hcb] at KCB
              have l1 : decide ((bo.size : Int) ≤ 200) = false := decide_eq_false (by omega)
              by_cases hcm : p.size + 3 ≤ 200
              · rw [if_pos hcm] at KCM
                have l2 : (bm.size : Int) ≤ 200 := by omega
                clear sb sm
                go_wp2_with (first
                  | (go_at_call 17; (with_reducible refine (KCB.out _).mono ?_); rintro e w3 ⟨rfl, b3⟩; replace B : Hid (Below w.heap.size w w3) := B.out.trans (b3.out.mono B.out.size); clear b3)
                  | (go_at_call 17; (with_reducible refine (KCM.out _).mono ?_); rintro e w4 ⟨rfl, b4⟩; replace B : Hid (Below w.heap.size w w4) := B.out.trans (b4.out.mono B.out.size); clear b4)
                  | (go_at_call 14; (with_reducible refine (KA.out _).mono ?_); rintro e w9 ⟨rfl, b9⟩; replace B : Hid (Below w.heap.size w w9) := B.out.trans (b9.out.mono B.out.size); clear b9))
                go_ret
                exact ⟨rfl, B⟩
              · rw [if_neg hcm] at KCM
                have l2 : decide ((bm.size : Int) ≤ 200) = false := decide_eq_false (by omega)
                clear sb sm
                go_wp2_with (first
                  | (go_at_call 17; (with_reducible refine (KCB.out _).mono ?_); rintro e w3 ⟨rfl, b3⟩; replace B : Hid (Below w.heap.size w w3) := B.out.trans (b3.out.mono B.out.size); clear b3)
                  | (go_at_call 17; (with_reducible refine (KCM.out _).mono ?_); rintro e w4 ⟨rfl, b4⟩; replace B : Hid (Below w.heap.size w w4) := B.out.trans (b4.out.mono B.out.size); clear b4)
                  | (go_at_call 14; (with_reducible refine (KA.out _).mono ?_); rintro e w9 ⟨rfl, b9⟩; replace B : Hid (Below w.heap.size w w9) := B.out.trans (b9.out.mono B.out.size); clear b9))
                go_ret
                exact ⟨rfl, B⟩
      · have KP := Lib.hid (fun V => check_is hp hc V)
        have KQ := Lib.hid (fun V => check_is hq rfl V)
        have hcb : (check q.data.toList != 0) = true := by simpa using hd
        generalize check q.data.toList = c at *
        go_enter Try.func6, Try.ntmps6
        go_wp2_with (first
          | (go_at_call 13; (with_reducible refine (KG.out _ _ _ (by simp) (by simp)).mono ?_); rintro e wz0 ⟨rfl, rfl⟩)
          | (go_at_call 17; (with_reducible refine (KP.out _).mono ?_); rintro e w1 ⟨rfl, b1⟩; replace B : Hid (Below w.heap.size w w1) := B.out.trans (b1.out.mono B.out.size); clear b1)
          | (go_at_call 17; (with_reducible refine (KQ.out _).mono ?_); rintro e w2 ⟨rfl, b2⟩; replace B : Hid (Below w.heap.size w w2) := B.out.trans (b2.out.mono B.out.size); clear b2)
          | (go_at_call 14; (with_reducible refine (KA.out _).mono ?_); rintro e w9 ⟨rfl, b9⟩; replace B : Hid (Below w.heap.size w w9) := B.out.trans (b9.out.mono B.out.size); clear b9))
        go_ret
        exact ⟨rfl, B⟩
    · have KP := Lib.hid (fun V => check_is hp rfl V)
      have hcb : (check p.data.toList != 0) = true := by simpa using hc
      generalize check p.data.toList = c at *
      go_enter Try.func6, Try.ntmps6
      go_wp2_with (first
        | (go_at_call 13; (with_reducible refine (KG.out _ _ _ (by simp) (by simp)).mono ?_); rintro e wz0 ⟨rfl, rfl⟩)
        | (go_at_call 17; (with_reducible refine (KP.out _).mono ?_); rintro e w1 ⟨rfl, b1⟩; replace B : Hid (Below w.heap.size w w1) := B.out.trans (b1.out.mono B.out.size); clear b1)
        | (go_at_call 14; (with_reducible refine (KA.out _).mono ?_); rintro e w9 ⟨rfl, b9⟩; replace B : Hid (Below w.heap.size w w9) := B.out.trans (b9.out.mono B.out.size); clear b9))
      go_ret
      exact ⟨rfl, B⟩
end Go.Proofs.Ytilfggnhaehbcaa.Rx
