/- The walks of the laws of layer 3: Floor. -/
import Derived.Test.YtbhlpcomgfmodaaDoorWr
set_option linter.unusedVariables false
set_option linter.unusedSimpArgs false
namespace Go.Proofs.YtbhlpcomgfmodaaDoor.Pro
open Go.RowKit

theorem chk_int {q : Int} (h1 : -1152921504606846976 ≤ q) (h2 : q ≤ 1152921504606846976) : Rat.chk q 1 := ⟨⟨by decide, by decide⟩, ⟨h1, h2⟩, by simp⟩
theorem cmp_lt {n m : Int} {D E : Nat} (hx : Rat.chk n D) (hy : Rat.chk m E) (h : n * (E : Int) < m * (D : Int)) : Rat.cmpOut n D m E = -1 := by
  unfold Rat.cmpOut
  rw [if_pos ⟨hx, hy⟩, Int.toNat_natCast, Int.toNat_natCast, if_pos ((Rat.toQ_lt hx hy).2 h)]
theorem cmp_ge {n m : Int} {D E : Nat} (hx : Rat.chk n D) (hy : Rat.chk m E) (h : ¬ n * (E : Int) < m * (D : Int)) : 0 ≤ Rat.cmpOut n D m E := by
  unfold Rat.cmpOut
  rw [if_pos ⟨hx, hy⟩, Int.toNat_natCast, Int.toNat_natCast, if_neg (mt (Rat.toQ_lt hx hy).1 h)]
  split <;> omega
theorem O1.first {w V : World} {n d : Int} (hb : Below (w.alloc (.cells #[.int .i64 n, .int .i64 d] 23)).heap.size (w.alloc (.cells #[.int .i64 n, .int .i64 d] 23)) V) : O1 w n d V := O1.step hb ⟨(Has.start w).alloc #[.int .i64 n, .int .i64 d] 23⟩
theorem O1.b {w V : World} {n d : Int} (h : O1 w n d V) : Below w.heap.size w V := h.has.1
set_option maxHeartbeats 1000000 in
set_option maxRecDepth 100000 in
theorem floor_raw (n d q c1 c2 : Int) (hq1 : -1152921504606846976 ≤ q) (hq2 : q ≤ 1152921504606846976) (hc1 : 0 ≤ c1)
    (hd : (1 < d) ∨ (¬ 1 < d ∧ q = n)) (h2 : q = 1152921504606846976 ∨ (¬ q = 1152921504606846976 ∧ c2 < 0))
    (CK : Hid (∀ w : World, Calls Tryd.prog 14 #[.agg #[.int .i64 n, .int .i64 d]] w fun e w' => e = .returned (.int .i64 0) ∧ Below w.heap.size w w'))
    (FL : Hid (∀ w : World, Calls Tryd.prog 15 #[.agg #[.int .i64 n, .int .i64 d]] w fun e w' => e = .returned (.int .i64 q) ∧ Below w.heap.size w w'))
    (C1 : Hid (∀ w : World, Calls Tryd.prog 28 #[.agg #[.int .i64 n, .int .i64 d], .agg #[.int .i64 q, .int .i64 1]] w fun e w' => e = .returned (.int .i64 c1) ∧ Below w.heap.size w w'))
    (C2 : Hid (∀ w : World, ¬ q = 1152921504606846976 → Calls Tryd.prog 28 #[.agg #[.int .i64 n, .int .i64 d], .agg #[.int .i64 (q + 1), .int .i64 1]] w fun e w' => e = .returned (.int .i64 c2) ∧ Below w.heap.size w w'))
    (w : World) (ht : T10 w) :
    Calls Tryd.prog 9 #[.agg #[.int .i64 n, .int .i64 d]] w fun e w' => e = .returned (.bool true) ∧ Below w.heap.size w w' := by
  have HT := Lib.hid ht
  have g1 : ¬ q < -1152921504606846976 := by omega
  have g2 : ¬ 1152921504606846976 < q := by omega
  have g3 : ¬ c1 < 0 := by omega
  clear ht hc1
  rcases h2 with rfl | ⟨hq, hc2⟩
  · rcases hd with h4 | ⟨h4, rfl⟩
    all_goals (
      go_enter Tryd.func9, Tryd.ntmps9
      go_wp2_with fail
      with_reducible refine (CK.out _).mono ?_
      rintro e w1 ⟨rfl, hb1⟩
      have T1 := Lib.hid (O1.first hb1)
      clear hb1
      obtain ⟨_, c0, c1'⟩ := T1.out.all
      go_wp2_with fail
      with_reducible refine (FL.out _).mono ?_
      rintro e w2 ⟨rfl, hb2⟩
      have T2 := Lib.hid (T1.out.step hb2)
      clear hb2 T1 c0 c1'
      obtain ⟨_, c0, c1'⟩ := T2.out.all
      go_wp2_with fail
      with_reducible refine (C1.out _).mono ?_
      rintro e w3 ⟨rfl, hb3⟩
      have T3 := Lib.hid (T2.out.step hb3)
      clear hb3 T2 c0 c1'
      obtain ⟨_, c0, c1'⟩ := T3.out.all
      go_wp2_with fail
      with_reducible refine (awake_any _ (HT.out.below T3.out.b)).mono ?_
      rintro e w4 ⟨rfl, hb4⟩
      have T4 := Lib.hid (T3.out.step hb4)
      clear hb4 T3 c0 c1'
      go_wp2
      go_ret
      exact ⟨rfl, T4.out.b⟩)
  · have C2' := Lib.hid fun w => C2.out w hq
    have hw : wrap64 (q + 1) = q + 1 := by unfold wrap64; omega
    rcases hd with h4 | ⟨h4, rfl⟩
    all_goals (
      go_enter Tryd.func9, Tryd.ntmps9
      go_wp2_with fail
      with_reducible refine (CK.out _).mono ?_
      rintro e w1 ⟨rfl, hb1⟩
      have T1 := Lib.hid (O1.first hb1)
      clear hb1
      obtain ⟨_, c0, c1'⟩ := T1.out.all
      go_wp2_with fail
      with_reducible refine (FL.out _).mono ?_
      rintro e w2 ⟨rfl, hb2⟩
      have T2 := Lib.hid (T1.out.step hb2)
      clear hb2 T1 c0 c1'
      obtain ⟨_, c0, c1'⟩ := T2.out.all
      go_wp2_with fail
      with_reducible refine (C1.out _).mono ?_
      rintro e w3 ⟨rfl, hb3⟩
      have T3 := Lib.hid (T2.out.step hb3)
      clear hb3 T2 c0 c1'
      obtain ⟨_, c0, c1'⟩ := T3.out.all
      go_wp2_with fail
      with_reducible refine (C2'.out _).mono ?_
      rintro e w3' ⟨rfl, hb3⟩
      have T3' := Lib.hid (T3.out.step hb3)
      clear hb3 T3 c0 c1'
      obtain ⟨_, c0, c1'⟩ := T3'.out.all
      go_wp2_with fail
      with_reducible refine (awake_any _ (HT.out.below T3'.out.b)).mono ?_
      rintro e w4 ⟨rfl, hb4⟩
      have T4 := Lib.hid (T3'.out.step hb4)
      clear hb4 T3' c0 c1'
      go_wp2
      go_ret
      exact ⟨rfl, T4.out.b⟩)
theorem floor_walk (n d : Int) (i1 : inI n) (i2 : inI d) (w : World) (ht : T10 w) :
    Calls Tryd.prog 9 #[.agg #[.int .i64 n, .int .i64 d]] w fun e w' => e = .returned (.bool true) ∧ Below w.heap.size w w' := by
  by_cases h : Rat.chk n d
  · have CK := Lib.hid fun w => rCheck_yes n d h w
    obtain ⟨D, rfl, hx⟩ := Rat.chk_nat h
    obtain ⟨⟨hd1, hd2⟩, ⟨hn1, hn2⟩, _⟩ := hx
    have hD : (0 : Int) < D := by omega
    have m1 := Int.mul_ediv_add_emod n (D : Int)
    have m2 := Int.emod_nonneg n (show (D : Int) ≠ 0 by omega)
    have m3 := Int.emod_lt_of_pos n hD
    have l1 : -1152921504606846976 ≤ n / (D : Int) := by
      rw [Int.le_ediv_iff_mul_le hD]
      omega
    have l2 : n / (D : Int) ≤ 1152921504606846976 := by
      have h1 := Int.ediv_le_ediv hD hn2
      have h2 : (1152921504606846976 : Int) / D ≤ 1152921504606846976 := Int.ediv_le_self _ (by decide)
      omega
    have FL := Lib.hid fun w => floor_yes n D h w
    have C1 := Lib.hid fun w => compare_any n D (n / (D : Int)) 1 i1 i2 (by unfold inI; omega) (by unfold inI; omega) w
    have hc1 := chk_int l1 l2
    have k1 : 0 ≤ Rat.cmpOut n D (n / (D : Int)) 1 := by
      refine cmp_ge (E := 1) h hc1 ?_
      rw [Int.mul_comm (n / (D : Int))]
      omega
    refine floor_raw n D (n / (D : Int)) _ (-1) l1 l2 k1 ?_ ?_ CK FL C1 ?_ w ht
    · by_cases h4 : (1 : Int) < D
      · exact .inl h4
      · right
        have : D = 1 := by omega
        subst this
        exact ⟨by decide, by simp⟩
    · by_cases h5 : n / (D : Int) = 1152921504606846976
      · exact .inl h5
      · exact .inr ⟨h5, by decide⟩
    · refine Lib.hid fun w hq => ?_
      have hc2 : Rat.chk (n / (D : Int) + 1) 1 := chk_int (by omega) (by omega)
      have e := cmp_lt (E := 1) h hc2 (by rw [Int.add_mul, Int.mul_comm (n / (D : Int))]; omega)
      have C2 := compare_any n D (n / (D : Int) + 1) 1 i1 i2 (by unfold inI; omega) (by unfold inI; omega) w
      rw [show ((1 : Nat) : Int) = 1 from rfl] at e
      rw [e] at C2
      exact C2
  · have CK := Lib.hid fun w => rCheck_no n d i1 i2 h w
    have HT := Lib.hid ht
    clear ht i1 i2 h
    go_enter Tryd.func9, Tryd.ntmps9
    go_wp2_with fail
    with_reducible refine (CK.out _).mono ?_
    rintro e w1 ⟨rfl, hb1⟩
    have T1 := Lib.hid (O1.first hb1)
    clear hb1
    go_wp2_with fail
    with_reducible refine (awake_any _ (HT.out.below T1.out.b)).mono ?_
    rintro e w2 ⟨rfl, hb2⟩
    have T2 := Lib.hid (T1.out.step hb2)
    clear hb2 T1
    go_wp2
    go_ret
    exact ⟨rfl, T2.out.b⟩
end Go.Proofs.YtbhlpcomgfmodaaDoor.Pro
