/- Layer 6: the walk of the law on the leftmost longest part. -/
import Derived.Deep.DeepCutAuto
import Derived.Test.YtilfggnhaehbcaaWC
set_option linter.unusedVariables false
set_option linter.unusedSimpArgs false
namespace Go.Proofs.Ytilfggnhaehbcaa.Rx
open Go.RowKit
theorem sub_data (s : ByteArray) {i k : Nat} (h : k ≤ s.size) : (s.extract i k).data.toList = sub s.data.toList i k := by
  rw [ByteArray.data_extract, Array.toList_extract, List.extract_eq_take_drop]
  rfl
set_option maxHeartbeats 4000000 in
set_option maxRecDepth 100000 in
theorem leftmost_walk (p s : ByteArray) (hp : p.size ≤ maxLen) (hs : s.size ≤ maxLen) (w : World) : Calls Try.prog 10 #[.string p, .string s] w (EmpP true w) := by
  unfold maxLen at hs
  have KA := Lib.hid (fun V => awake_any V)
  have KG := Lib.hid (fun b c V (h : V.cell? ⟨b, 0, none⟩ = some (.string p)) => great_one (s := ⟨#[]⟩) (by decide) hp b c V h)
  have B : Hid (Below w.heap.size w (w.alloc (.cells #[.string p] 9))) := (Below.refl _ _).alloc (Nat.le_refl _) _
  cases hg : greatS ⟨#[]⟩ [p] with
  | true =>
    rw [hg] at KG
    go_enter Try.func10, Try.ntmps10
    go_wp2_with (first
      | (go_at_call 13; (with_reducible refine (KG.out _ _ _ (by simp)).mono ?_); rintro e wz0 ⟨rfl, rfl⟩)
      | (go_at_call 14; (with_reducible refine (KA.out _).mono ?_); rintro e w9 ⟨rfl, b9⟩; replace B : Hid (Below w.heap.size w w9) := B.out.trans (b9.out.mono B.out.size); clear b9))
    go_ret
    exact ⟨rfl, B⟩
  | false =>
    rw [hg] at KG
    have h1 := (great_no hg).1 p (by simp)
    have KP := Lib.hid (fun V => check_is hp rfl V)
    by_cases h25 : 25 < s.size
    · have h25' : (25 : Int) < (s.size : Int) := by omega
      go_enter Try.func10, Try.ntmps10
      go_wp2_with (first
        | (go_at_call 13; (with_reducible refine (KG.out _ _ _ (by simp)).mono ?_); rintro e wz0 ⟨rfl, rfl⟩)
        | (go_at_call 14; (with_reducible refine (KA.out _).mono ?_); rintro e w9 ⟨rfl, b9⟩; replace B : Hid (Below w.heap.size w w9) := B.out.trans (b9.out.mono B.out.size); clear b9))
      go_ret
      exact ⟨rfl, B⟩
    · have h25' : ¬ ((25 : Int) < (s.size : Int)) := by omega
      by_cases hc : check p.data.toList = 0
      · obtain ⟨r, hr⟩ := check_parse hc
        have KF := Lib.hid (fun V => find_any p s hp (by omega) V)
        have KM : Hid (∀ (i k : Nat), k ≤ s.size → ∃ m : Bool, (m = true ↔ Mat r (sub s.data.toList i k)) ∧ ∀ V, Calls Try.prog 23 #[.string p, .string (s.extract i k)] V (EmpP m V)) := fun i k hk => by
          obtain ⟨m, hm, hm2⟩ := match_exists p (s.extract i k) hp (by have := sub_size s i k hk; omega)
          rw [mat_is hc hr, sub_data s hk] at hm
          exact ⟨m, hm, hm2⟩
        rw [hc] at KP
        have HRR : Hid (∀ bs fd, ResS p.data.toList s.data.toList s.size bs fd → Res r s.data.toList s.size bs fd) := fun bs fd h => by
          rcases h with ⟨h, _⟩ | ⟨r', _, h2, h3⟩
          · exact absurd hc h
          · rw [hr] at h2
            cases h2
            exact h3
        clear hc hr hg
        have hsl := size_len s
        go_enter Try.func10, Try.ntmps10
        go_upto_region 4 with (first
          | (go_at_call 13; (with_reducible refine (KG.out _ _ _ (by simp)).mono ?_); rintro e wz0 ⟨rfl, rfl⟩)
          | (go_at_call 17; (with_reducible refine (KP.out _).mono ?_); rintro e w1 ⟨rfl, b1⟩; replace B : Hid (Below w.heap.size w w1) := B.out.trans (b1.out.mono B.out.size); clear b1)
          | (go_at_call 25; (with_reducible refine (KF.out _).mono ?_); rintro e w3 ⟨bs, fd, rfl, RS, b3⟩; replace B : Hid (Below w.heap.size w w3) := B.out.trans (b3.out.mono B.out.size); clear b3))
        have HR := Lib.hid (HRR.out bs fd RS.out)
        have B3 : Hid (Below w.heap.size w (w3.alloc (.cells #[.int .i64 (bs.1 : Int), .int .i64 (bs.2 : Int)] 32))) := B.out.alloc B.out.size _
        have K3 : Hid (Blk (w3.alloc (.cells #[.int .i64 (bs.1 : Int), .int .i64 (bs.2 : Int)] 32)) w3.heap.size 32 [.int .i64 (bs.1 : Int), .int .i64 (bs.2 : Int)]) := Blk.new w3 32 _
        have G3 : Hid (w.heap.size ≤ w3.heap.size) := B.out.size
        clear HRR RS KG KP KF B
        generalize w3.alloc (.cells #[.int .i64 (bs.1 : Int), .int .i64 (bs.2 : Int)] 32) = W at *
        generalize w3.heap.size = g at *
        obtain ⟨b1, b2⟩ := bs
        go_cut [60] (fun x wx => x = .bool false ∧ Hid (Below w.heap.size w wx) ∧ Hid (Blk wx g 32 [.int .i64 (b1 : Int), .int .i64 (b2 : Int)]))
        case first =>
          cases fd with
          | false =>
            go_wp2_with fail
            go_meet
            case rel => exact ⟨rfl, B3, K3⟩
          | true =>
            have F := HR.out.fnd rfl
            rw [hsl] at F
            have f1 : (b1 : Int) ≤ (b2 : Int) := by have := F.1; simp only at this; omega
            have f2 : (b2 : Int) ≤ (s.size : Int) := by have := F.2.1; simp only at this; omega
            have f0 : (0 : Int) ≤ (b1 : Int) := Int.natCast_nonneg _
            have f00 : (0 : Int) ≤ (b2 : Int) := Int.natCast_nonneg _
            obtain ⟨m, hm, K⟩ := KM.out b1 b2 (by omega)
            obtain rfl : m = true := hm.2 F.2.2.2
            have KK := Lib.hid K
            have c0 : W.cell? ⟨g, 0, none⟩ = some (.int .i64 (b1 : Int)) := K3.out.cell 0
            have c1 : W.cell? ⟨g, 1, none⟩ = some (.int .i64 (b2 : Int)) := K3.out.cell 1
            clear F hm K
            go_wp2_with (go_at_call 23; (with_reducible refine (KK.out _).mono ?_); rintro e w4 ⟨rfl, b4⟩)
            go_meet
            case rel => exact ⟨by (simp only [decide_eq_false (show ¬ ((b1 : Int) < 0) by omega), decide_eq_false (show ¬ (b2 < b1) by omega), decide_eq_false (show ¬ (s.size < b2) by omega)]; rfl), B3.out.trans (b4.out.mono B3.out.size), K3.out.below b4.out K3.out.lt⟩
        case rest =>
          obtain ⟨rfl, B, K3⟩ := hcut
          clear B3
          go_wp2_with fail
          go_loopw [64] (fun vi wr => ∃ i : Nat, i ≤ s.size + 1 ∧ vi = .int .i64 i ∧ Hid (Below w.heap.size w wr) ∧ Hid (Blk wr g 32 [.int .i64 (b1 : Int), .int .i64 (b2 : Int)])) (fun vi _ => s.size + 1 - (intOf vi).toNat)
          case atStart => exact ⟨0, Nat.zero_le _, rfl, B, K3⟩
          case round =>
            clear B K3
            obtain ⟨i, hi, rfl, B, K3⟩ := hrel
            by_cases hlt : i < s.size + 1
            · have hlt' : (i : Int) < (s.size : Int) + 1 := by omega
              have hi0 : (0 : Int) ≤ (i : Int) := Int.natCast_nonneg _
              go_wp2_with fail
              go_loopw [8] (fun vj wr => ∃ j : Nat, i ≤ j ∧ j ≤ s.size + 1 ∧ vj = .int .i64 j ∧ Hid (Below w.heap.size w wr) ∧ Hid (Blk wr g 32 [.int .i64 (b1 : Int), .int .i64 (b2 : Int)])) (fun vj _ => s.size + 1 - (intOf vj).toNat)
              case atStart => exact ⟨i, Nat.le_refl _, by omega, rfl, B, K3⟩
              case round =>
                clear B K3
                obtain ⟨j, hij, hj, rfl, B, K3⟩ := hrel
                have hj0 : (0 : Int) ≤ (j : Int) := Int.natCast_nonneg _
                have hij' : (i : Int) ≤ (j : Int) := by omega
                by_cases hjs : j ≤ s.size
                · have hjs' : (j : Int) ≤ (s.size : Int) := by omega
                  obtain ⟨m, hm, K⟩ := KM.out i j hjs
                  have KK := Lib.hid K
                  have c0 : wr.cell? ⟨g, 0, none⟩ = some (.int .i64 (b1 : Int)) := K3.out.cell 0
                  have c1 : wr.cell? ⟨g, 1, none⟩ = some (.int .i64 (b2 : Int)) := K3.out.cell 1
                  have HO : m = true → fd = true ∧ (b1 < i ∨ b1 = i ∧ j ≤ b2) := fun h => HR.out.opt i j (by omega) hij (by rw [hsl]; exact hjs) (hm.1 h)
                  clear K hm
                  cases fd with
                  | false =>
                    obtain rfl : m = false := by
                      cases m with
                      | false => rfl
                      | true => cases (HO rfl).1
                    clear HO
                    go_wp2_with (go_at_call 23; (with_reducible refine (KK.out _).mono ?_); rintro e w4 ⟨rfl, b4⟩)
                    go_roundw
                    case rel => exact ⟨j + 1, by omega, by omega, by go_num, B.out.trans (b4.out.mono B.out.size), K3.out.below b4.out K3.out.lt⟩
                    case measure => simp [intOf]; omega
                  | true =>
                    by_cases h1 : i < b1
                    · have h1' : (i : Int) < (b1 : Int) := by omega
                      obtain rfl : m = false := by
                        cases m with
                        | false => rfl
                        | true => have := (HO rfl).2; omega
                      clear HO
                      go_wp2_with (go_at_call 23; (with_reducible refine (KK.out _).mono ?_); rintro e w4 ⟨rfl, b4⟩)
                      go_roundw
                      case rel => exact ⟨j + 1, by omega, by omega, by go_num, B.out.trans (b4.out.mono B.out.size), K3.out.below b4.out K3.out.lt⟩
                      case measure => simp [intOf]; omega
                    · have h1' : ¬ ((i : Int) < (b1 : Int)) := by omega
                      by_cases h2 : i = b1
                      · subst h2
                        by_cases h3 : b2 < j
                        · have h3' : (b2 : Int) < (j : Int) := by omega
                          obtain rfl : m = false := by
                            cases m with
                            | false => rfl
                            | true => have := (HO rfl).2; omega
                          clear HO
                          go_wp2_with (go_at_call 23; (with_reducible refine (KK.out _).mono ?_); rintro e w4 ⟨rfl, b4⟩)
                          go_roundw
                          case rel => exact ⟨j + 1, by omega, by omega, by go_num, B.out.trans (b4.out.mono B.out.size), K3.out.below b4.out K3.out.lt⟩
                          case measure => simp [intOf]; omega
                        · have h3' : ¬ ((b2 : Int) < (j : Int)) := by omega
                          clear HO
                          go_wp2_with fail
                          go_roundw
                          case rel => exact ⟨j + 1, by omega, by omega, by go_num, B, K3⟩
                          case measure => simp [intOf]; omega
                      · have h2' : ((i : Int) == (b1 : Int)) = false := beq_false_of_ne (by omega)
                        clear HO
                        go_wp2_with fail
                        go_roundw
                        case rel => exact ⟨j + 1, by omega, by omega, by go_num, B, K3⟩
                        case measure => simp [intOf]; omega
                · obtain rfl : j = s.size + 1 := by omega
                  have hjs' : ¬ (((s.size + 1 : Nat) : Int) ≤ (s.size : Int)) := by omega
                  go_wp2_with fail
                  go_roundw
                  case rel => exact ⟨i + 1, by omega, by go_num, B, K3⟩
                  case measure => simp [intOf]; omega
            · obtain rfl : i = s.size + 1 := by omega
              have hge : ¬ (((s.size + 1 : Nat) : Int) < (s.size : Int) + 1) := by omega
              go_wp2_with (go_at_call 14; (with_reducible refine (KA.out _).mono ?_); rintro e w9 ⟨rfl, b9⟩; replace B : Hid (Below w.heap.size w w9) := B.out.trans (b9.out.mono B.out.size); clear b9)
              go_ret
              exact ⟨rfl, B⟩
      · have hcb : (check p.data.toList != 0) = true := by simpa using hc
        generalize check p.data.toList = c at *
        go_enter Try.func10, Try.ntmps10
        go_wp2_with (first
          | (go_at_call 13; (with_reducible refine (KG.out _ _ _ (by simp)).mono ?_); rintro e wz0 ⟨rfl, rfl⟩)
          | (go_at_call 17; (with_reducible refine (KP.out _).mono ?_); rintro e w1 ⟨rfl, b1⟩; replace B : Hid (Below w.heap.size w w1) := B.out.trans (b1.out.mono B.out.size); clear b1)
          | (go_at_call 14; (with_reducible refine (KA.out _).mono ?_); rintro e w9 ⟨rfl, b9⟩; replace B : Hid (Below w.heap.size w w9) := B.out.trans (b9.out.mono B.out.size); clear b9))
        go_ret
        exact ⟨rfl, B⟩
end Go.Proofs.Ytilfggnhaehbcaa.Rx
