/- The walks of the laws of layer 3: Reduced. -/
import Derived.Test.YtbhlpcomgfmodaaDoorWr
import Derived.Test.YtbhlpcomgfmodaaDoorPX
set_option linter.unusedVariables false
set_option linter.unusedSimpArgs false
namespace Go.Proofs.YtbhlpcomgfmodaaDoor.Pro
open Go.RowKit

theorem mul_in {x y : Int} (h1 : x.natAbs ≤ 1048576) (h2 : y.natAbs ≤ 1048576) : wrap64 (x * y) = x * y := by
  have h3 : (x * y).natAbs ≤ 1048576 * 1048576 := by
    rw [Int.natAbs_mul]
    exact Nat.mul_le_mul h1 h2
  unfold wrap64
  omega
/-- What Make makes of a small quotient. -/
theorem make_small (n d : Int) (hd : d ≠ 0) (h1 : n.natAbs ≤ 1048576) (h2 : d.natAbs ≤ 1048576) :
    ∃ a b : Int, Rat.makeOut n d = .tuple #[.agg #[.int .i64 a, .int .i64 b], .int .i64 0] ∧ Rat.chk a b ∧ a.natAbs ≤ 1048576 ∧ b.natAbs ≤ 1048576 ∧ a * d = n * b ∧
      ∀ k : Int, k ≠ 0 → Rat.makeOut (k * n) (k * d) = .tuple #[.agg #[.int .i64 a, .int .i64 b], .int .i64 0] := by
  have hg : 0 < Nat.gcd n.natAbs d.natAbs := Nat.gcd_pos_of_pos_right _ (by omega)
  have c1 : Nat.gcd n.natAbs d.natAbs ∣ n.natAbs := Nat.gcd_dvd_left _ _
  have c2 : Nat.gcd n.natAbs d.natAbs ∣ d.natAbs := Nat.gcd_dvd_right _ _
  have e3 : Nat.gcd (n.natAbs / Nat.gcd n.natAbs d.natAbs) (d.natAbs / Nat.gcd n.natAbs d.natAbs) = 1 := Nat.gcd_div_gcd_div_gcd_of_pos_right (by omega)
  have hk : ∀ k : Int, k ≠ 0 → Rat.makeOut (k * n) (k * d) = Rat.makeOut n d := by
    intro k hk
    have hkp : 0 < k.natAbs := by omega
    have hs : k.sign * k.sign = 1 := by
      rcases Int.lt_or_gt_of_ne hk with h | h
      · rw [Rat.sign_neg' h]; rfl
      · rw [Rat.sign_pos' h]; rfl
    unfold Rat.makeOut
    rw [Int.natAbs_mul, Int.natAbs_mul, Nat.gcd_mul_left, Nat.mul_div_mul_left _ _ hkp, Nat.mul_div_mul_left _ _ hkp, Int.sign_mul, Int.sign_mul]
    have : k.sign * n.sign * (k.sign * d.sign) = n.sign * d.sign := by
      rw [show k.sign * n.sign * (k.sign * d.sign) = k.sign * k.sign * (n.sign * d.sign) by ac_rfl, hs, Int.one_mul]
    rw [this]
  generalize hG : Nat.gcd n.natAbs d.natAbs = g at *
  obtain ⟨p, hp⟩ := c1
  obtain ⟨q, hq⟩ := c2
  have d1 : n.natAbs / g = p := by rw [hp, Nat.mul_div_cancel_left _ hg]
  have d2 : d.natAbs / g = q := by rw [hq, Nat.mul_div_cancel_left _ hg]
  have b1 : p ≤ n.natAbs := by rw [hp]; exact Nat.le_mul_of_pos_left _ hg
  have b2 : q ≤ d.natAbs := by rw [hq]; exact Nat.le_mul_of_pos_left _ hg
  have b3 : 0 < q := Nat.pos_of_ne_zero (by rintro rfl; omega)
  rw [d1, d2] at e3
  have hm : Rat.makeOut n d = Rat.pairOut (n.sign * d.sign * (p : Int)) (q : Int) := by
    unfold Rat.makeOut
    rw [hG, d1, d2]
  have ha : (n.sign * d.sign * (p : Int)).natAbs = p := by
    rw [Int.natAbs_mul, Int.natAbs_mul, Int.natAbs_natCast]
    by_cases hn : n = 0
    · have : p = 0 := by
        rw [hn] at hp
        simp at hp
        omega
      rw [this, Nat.mul_zero]
    · rw [Int.natAbs_sign_of_ne_zero hn, Int.natAbs_sign_of_ne_zero hd, Nat.one_mul]
  have hv : n.sign * d.sign * (p : Int) * d = n * (q : Int) := by
    have f1 : n = n.sign * ((g : Int) * (p : Int)) := by
      have := Int.sign_mul_natAbs n
      rw [hp, Int.natCast_mul] at this
      exact this.symm
    have f2 : d.sign * d = ((g : Int) * (q : Int)) := by
      have : d.sign * d = (d.natAbs : Int) := by
        rcases Int.lt_or_gt_of_ne hd with h | h
        · rw [Rat.sign_neg' h]; omega
        · rw [Rat.sign_pos' h]; omega
      rw [hq, Int.natCast_mul] at this
      exact this
    calc n.sign * d.sign * (p : Int) * d = n.sign * (p : Int) * (d.sign * d) := by ac_rfl
      _ = n.sign * ((g : Int) * (p : Int)) * (q : Int) := by rw [f2]; ac_rfl
      _ = n * (q : Int) := by rw [← f1]
  have hout := hm
  rw [Rat.pairOut_yes (by omega) (by omega)] at hout
  refine ⟨n.sign * d.sign * (p : Int), q, hout, ⟨⟨by omega, by omega⟩, by omega, ?_⟩, by omega, by omega, hv, fun k h => (hk k h).trans hout⟩
  rw [ha, Int.natAbs_natCast]
  exact e3

set_option maxHeartbeats 1000000 in
set_option maxRecDepth 100000 in
theorem reduced_out (n d k : Int)
    (h : n < -1048576 ∨ (¬ n < -1048576 ∧ 1048576 < n) ∨ (¬ n < -1048576 ∧ ¬ 1048576 < n ∧ d < -1048576) ∨ (¬ n < -1048576 ∧ ¬ 1048576 < n ∧ ¬ d < -1048576 ∧ 1048576 < d)
      ∨ (¬ n < -1048576 ∧ ¬ 1048576 < n ∧ ¬ d < -1048576 ∧ ¬ 1048576 < d ∧ k < -1048576) ∨ (¬ n < -1048576 ∧ ¬ 1048576 < n ∧ ¬ d < -1048576 ∧ ¬ 1048576 < d ∧ ¬ k < -1048576 ∧ 1048576 < k))
    (w : World) (ht : T10 w) :
    Calls Tryd.prog 6 #[.int .i64 n, .int .i64 d, .int .i64 k] w fun e w' => e = .returned (.bool true) ∧ Below w.heap.size w w' := by
  have HT := Lib.hid ht
  clear ht
  rcases h with g1 | ⟨g1, g2⟩ | ⟨g1, g2, g3⟩ | ⟨g1, g2, g3, g4⟩ | ⟨g1, g2, g3, g4, g5⟩ | ⟨g1, g2, g3, g4, g5, g6⟩
  all_goals (
    go_enter Tryd.func6, Tryd.ntmps6
    go_wp2_with fail
    with_reducible refine (awake_any _ HT.out).mono ?_
    rintro e w1 ⟨rfl, hb1⟩
    have H1 := Lib.hid hb1
    clear hb1
    go_wp2
    go_ret
    exact ⟨rfl, H1.out⟩)
set_option maxHeartbeats 1000000 in
set_option maxRecDepth 100000 in
theorem reduced_div (n k : Int) (g1 : ¬ n < -1048576) (g2 : ¬ 1048576 < n) (g5 : ¬ k < -1048576) (g6 : ¬ 1048576 < k) (w : World) (ht : T10 w) :
    Calls Tryd.prog 6 #[.int .i64 n, .int .i64 0, .int .i64 k] w fun e w' => e = .returned (.bool true) ∧ Below w.heap.size w w' := by
  have HT := Lib.hid ht
  clear ht
  go_enter Tryd.func6, Tryd.ntmps6
  go_wp2_with fail
  with_reducible refine (make_zero n _).mono ?_
  rintro e w1 ⟨rfl, hb1⟩
  have T1 := Lib.hid (((Has.start w).step hb1).alloc #[.int .i64 0, .int .i64 0] 23)
  clear hb1
  go_upto_region 4 with fail
  generalize w1.alloc (.cells #[.int .i64 0, .int .i64 0] 23) = y1 at *
  generalize w1.heap.size = q1 at *
  obtain ⟨a0, a1⟩ := cells2 (T1.out.row (b := q1) (cs := #[.int .i64 0, .int .i64 0]) (t := 23) (by simp))
  go_wp2_with fail
  with_reducible refine (awake_any _ (HT.out.below (Has.b T1.out))).mono ?_
  rintro e w2 ⟨rfl, hb2⟩
  have T2 := Lib.hid (T1.out.step hb2)
  clear hb2 T1
  go_wp2
  go_ret
  exact ⟨rfl, Has.b T2.out⟩
set_option maxHeartbeats 1000000 in
set_option maxRecDepth 100000 in
theorem rlaw_raw (n d k kn kd a b m y1 y2 f : Int) (g1 : ¬ n < -1048576) (g2 : ¬ 1048576 < n) (g3 : ¬ d < -1048576) (g4 : ¬ 1048576 < d) (g5 : ¬ k < -1048576) (g6 : ¬ 1048576 < k) (g7 : ¬ d = 0)
    (hw1 : wrap64 (k * n) = kn) (hw2 : wrap64 (k * d) = kd) (hw3 : wrap64 (a * d) = m) (hw4 : wrap64 (n * b) = m)
    (l1 : 0 < b) (l2 : b ≤ 1048576) (l3 : -1048576 ≤ a) (l4 : a ≤ 1048576)
    (hk : (k = 0 ∧ f = 26 ∧ kn = 0 ∧ kd = 0) ∨ (¬ k = 0 ∧ f = 0 ∧ y1 = a ∧ y2 = b))
    (M1 : Hid (∀ w : World, Calls Tryd.prog 11 #[.int .i64 n, .int .i64 d] w fun e w' => e = .returned (.tuple #[.agg #[.int .i64 a, .int .i64 b], .int .i64 0]) ∧ Below w.heap.size w w'))
    (M2 : Hid (∀ w : World, Calls Tryd.prog 11 #[.int .i64 kn, .int .i64 kd] w fun e w' => e = .returned (.tuple #[.agg #[.int .i64 y1, .int .i64 y2], .int .i64 f]) ∧ Below w.heap.size w w'))
    (CK : Hid (∀ w : World, Calls Tryd.prog 13 #[.agg #[.int .i64 a, .int .i64 b]] w fun e w' => e = .returned (.int .i64 0) ∧ Below w.heap.size w w'))
    (w : World) (ht : T10 w) :
    Calls Tryd.prog 6 #[.int .i64 n, .int .i64 d, .int .i64 k] w fun e w' => e = .returned (.bool true) ∧ Below w.heap.size w w' := by
  have HT := Lib.hid ht
  clear ht
  rcases hk with ⟨hk, rfl, rfl, rfl⟩ | ⟨hk, rfl, rfl, rfl⟩
  · go_enter Tryd.func6, Tryd.ntmps6
    go_wp2_with fail
    with_reducible refine (M1.out _).mono ?_
    rintro e w1 ⟨rfl, hb1⟩
    have T1 := Lib.hid (((Has.start w).step hb1).alloc #[.int .i64 a, .int .i64 b] 23)
    clear hb1
    go_upto_region 4 with fail
    generalize w1.alloc (.cells #[.int .i64 a, .int .i64 b] 23) = x1 at *
    generalize w1.heap.size = q1 at *
    go_wp2_with fail
    with_reducible refine (M2.out _).mono ?_
    rintro e w2 ⟨rfl, hb2⟩
    have T2 := Lib.hid ((T1.out.step hb2).alloc #[.int .i64 y1, .int .i64 y2] 23)
    clear hb2 T1
    go_upto_region 7 with fail
    generalize w2.alloc (.cells #[.int .i64 y1, .int .i64 y2] 23) = x2 at *
    generalize w2.heap.size = q2 at *
    obtain ⟨a0, a1⟩ := cells2 (T2.out.row (b := q1) (cs := #[.int .i64 a, .int .i64 b]) (t := 23) (by simp))
    go_wp2_with fail
    with_reducible refine (CK.out _).mono ?_
    rintro e w3 ⟨rfl, hb3⟩
    have T3 := Lib.hid (T2.out.step hb3)
    clear hb3 T2 a0 a1
    obtain ⟨a0, a1⟩ := cells2 (T3.out.row (b := q1) (cs := #[.int .i64 a, .int .i64 b]) (t := 23) (by simp))
    go_wp2_with fail
    with_reducible refine (awake_any _ (HT.out.below (Has.b T3.out))).mono ?_
    rintro e w4 ⟨rfl, hb4⟩
    have T4 := Lib.hid (T3.out.step hb4)
    clear hb4 T3
    go_wp2
    go_ret
    exact ⟨rfl, Has.b T4.out⟩
  · go_enter Tryd.func6, Tryd.ntmps6
    go_wp2_with fail
    with_reducible refine (M1.out _).mono ?_
    rintro e w1 ⟨rfl, hb1⟩
    have T1 := Lib.hid (((Has.start w).step hb1).alloc #[.int .i64 y1, .int .i64 y2] 23)
    clear hb1
    go_upto_region 4 with fail
    generalize w1.alloc (.cells #[.int .i64 y1, .int .i64 y2] 23) = x1 at *
    generalize w1.heap.size = q1 at *
    go_wp2_with fail
    with_reducible refine (M2.out _).mono ?_
    rintro e w2 ⟨rfl, hb2⟩
    have T2 := Lib.hid ((T1.out.step hb2).alloc #[.int .i64 y1, .int .i64 y2] 23)
    clear hb2 T1
    go_upto_region 7 with fail
    generalize w2.alloc (.cells #[.int .i64 y1, .int .i64 y2] 23) = x2 at *
    generalize w2.heap.size = q2 at *
    obtain ⟨a0, a1⟩ := cells2 (T2.out.row (b := q1) (cs := #[.int .i64 y1, .int .i64 y2]) (t := 23) (by simp))
    obtain ⟨b0, b1⟩ := cells2 (T2.out.row (b := q2) (cs := #[.int .i64 y1, .int .i64 y2]) (t := 23) (by simp))
    go_wp2_with fail
    with_reducible refine (CK.out _).mono ?_
    rintro e w3 ⟨rfl, hb3⟩
    have T3 := Lib.hid (T2.out.step hb3)
    clear hb3 T2 a0 a1 b0 b1
    obtain ⟨a0, a1⟩ := cells2 (T3.out.row (b := q1) (cs := #[.int .i64 y1, .int .i64 y2]) (t := 23) (by simp))
    go_wp2_with fail
    with_reducible refine (awake_any _ (HT.out.below (Has.b T3.out))).mono ?_
    rintro e w4 ⟨rfl, hb4⟩
    have T4 := Lib.hid (T3.out.step hb4)
    clear hb4 T3
    go_wp2
    go_ret
    exact ⟨rfl, Has.b T4.out⟩
theorem reduced_walk (n : Int) (i1 : inI n) (d : Int) (i2 : inI d) (k : Int) (i3 : inI k) (w : World) (ht : T10 w) :
    Calls Tryd.prog 6 #[.int .i64 n, .int .i64 d, .int .i64 k] w fun e w' => e = .returned (.bool true) ∧ Below w.heap.size w w' := by
  by_cases h : n.natAbs ≤ 1048576 ∧ d.natAbs ≤ 1048576 ∧ k.natAbs ≤ 1048576
  · obtain ⟨h1, h2, h3⟩ := h
    by_cases hd : d = 0
    · subst hd
      exact reduced_div n k (by omega) (by omega) (by omega) (by omega) w ht
    · obtain ⟨a, b, ho, hc, z1, z2, hv, hk⟩ := make_small n d hd h1 h2
      have M1 := fun w => make_any n d i1 i2 hd w
      rw [ho] at M1
      have hb := hc.1.1
      by_cases k0 : k = 0
      · subst k0
        have M2 := fun w => make_zero 0 w
        exact rlaw_raw n d 0 0 0 a b (n * b) 0 0 26 (by omega) (by omega) (by omega) (by omega) (by omega) (by omega) hd (by rw [Int.zero_mul]; unfold wrap64; omega) (by rw [Int.zero_mul]; unfold wrap64; omega)
          (by rw [mul_in z1 h2, hv]) (mul_in h1 z2) (by omega) (by omega) (by omega) (by omega) (.inl ⟨rfl, rfl, rfl, rfl⟩) (Lib.hid M1) (Lib.hid M2) (Lib.hid fun w => check_yes a b hc w) w ht
      · have m1 : (k * n).natAbs ≤ 1048576 * 1048576 := by rw [Int.natAbs_mul]; exact Nat.mul_le_mul h3 h1
        have m2 : (k * d).natAbs ≤ 1048576 * 1048576 := by rw [Int.natAbs_mul]; exact Nat.mul_le_mul h3 h2
        have M2 := fun w => make_any (k * n) (k * d) (by unfold inI; omega) (by unfold inI; omega) (Int.mul_ne_zero k0 hd) w
        rw [hk k k0] at M2
        exact rlaw_raw n d k (k * n) (k * d) a b (n * b) a b 0 (by omega) (by omega) (by omega) (by omega) (by omega) (by omega) hd (mul_in h3 h1) (mul_in h3 h2)
          (by rw [mul_in z1 h2, hv]) (mul_in h1 z2) (by omega) (by omega) (by omega) (by omega) (.inr ⟨k0, rfl, rfl, rfl⟩) (Lib.hid M1) (Lib.hid M2) (Lib.hid fun w => check_yes a b hc w) w ht
  · exact reduced_out n d k (by omega) w ht
end Go.Proofs.YtbhlpcomgfmodaaDoor.Pro
