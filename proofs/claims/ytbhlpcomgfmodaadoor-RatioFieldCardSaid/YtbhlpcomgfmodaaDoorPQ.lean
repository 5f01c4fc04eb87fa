/- The program's valid, Add, Mul, Sub. -/
import Derived.Test.YtbhlpcomgfmodaaDoorPO
import Derived.Test.YtbhlpcomgfmodaaDoorPP
import Derived.Test.YtbhlpcomgfmodaaDoorRatS
set_option linter.unusedVariables false
set_option linter.unusedSimpArgs false
namespace Go.Proofs.YtbhlpcomgfmodaaDoor.Pro
open Go.RowKit

/-- Two fractions in their blocks. -/
structure P2 (w : World) (n1 d1 n2 d2 : Int) (V : World) : Prop where
  has : Has w [(w.heap.size, #[.int .i64 n1, .int .i64 d1], 23), (w.heap.size + 1, #[.int .i64 n2, .int .i64 d2], 23)] V
theorem P2.start (w : World) (n1 d1 n2 d2 : Int) : P2 w n1 d1 n2 d2 ((w.alloc (.cells #[.int .i64 n1, .int .i64 d1] 23)).alloc (.cells #[.int .i64 n2, .int .i64 d2] 23)) := by
  have h := ((Has.start w).alloc #[.int .i64 n1, .int .i64 d1] 23).alloc #[.int .i64 n2, .int .i64 d2] 23
  simp only [World.size_alloc] at h
  exact ⟨h.sub (by simp)⟩
theorem P2.step {w V V2 : World} {n1 d1 n2 d2 : Int} (hb : Below V.heap.size V V2) (h : P2 w n1 d1 n2 d2 V) : P2 w n1 d1 n2 d2 V2 := ⟨h.has.step hb⟩
theorem P2.drew {w V : World} {n1 d1 n2 d2 : Int} (h : P2 w n1 d1 n2 d2 V) : P2 w n1 d1 n2 d2 V.drew := ⟨h.has.drew⟩
theorem P2.all {w V : World} {n1 d1 n2 d2 : Int} (h : P2 w n1 d1 n2 d2 V) : P2 w n1 d1 n2 d2 V ∧ V.cell? ⟨w.heap.size, 0, none⟩ = some (.int .i64 n1) ∧ V.cell? ⟨w.heap.size, 1, none⟩ = some (.int .i64 d1) ∧ V.cell? ⟨w.heap.size + 1, 0, none⟩ = some (.int .i64 n2) ∧ V.cell? ⟨w.heap.size + 1, 1, none⟩ = some (.int .i64 d2) :=
  have ha := cells2 (h.has.row (b := w.heap.size) (cs := #[.int .i64 n1, .int .i64 d1]) (t := 23) (by simp))
  have hb := cells2 (h.has.row (b := w.heap.size + 1) (cs := #[.int .i64 n2, .int .i64 d2]) (t := 23) (by simp))
  ⟨h, ha.1, ha.2, hb.1, hb.2⟩
structure P2k (w : World) (n1 d1 n2 d2 : Int) (V : World) : Prop where
  out : P2 w n1 d1 n2 d2 V
set_option maxHeartbeats 1000000 in
set_option maxRecDepth 100000 in
theorem valid_yes (n1 d1 n2 d2 : Int) (hx : Rat.chk n1 d1) (hy : Rat.chk n2 d2) (w : World) :
    Calls Tryd.prog 43 #[.agg #[.int .i64 n1, .int .i64 d1], .agg #[.int .i64 n2, .int .i64 d2]] w fun e w' => e = .returned (.bool true) ∧ Below w.heap.size w w' := by
  have A := Lib.hid fun w => check_yes n1 d1 hx w
  have B := Lib.hid fun w => check_yes n2 d2 hy w
  clear hx hy
  go_enter Tryd.func43, Tryd.ntmps43
  go_wp2_with fail
  with_reducible refine (A.out _).mono ?_
  rintro e w1 ⟨rfl, hb1⟩
  have T1 := Lib.hid (P2.step hb1 (P2.start w n1 d1 n2 d2))
  clear hb1 A
  obtain ⟨_, u1, u2, u3, u4⟩ := T1.out.all
  go_wp2_with fail
  with_reducible refine (B.out _).mono ?_
  rintro e w2 ⟨rfl, hb2⟩
  have T2 := Lib.hid (P2.step hb2 T1.out)
  clear hb2 B T1 u1 u2 u3 u4
  go_wp2
  go_ret
  exact ⟨rfl, T2.out.has.1⟩
set_option maxHeartbeats 1000000 in
set_option maxRecDepth 100000 in
theorem valid_no (n1 d1 n2 d2 : Int) (i1 : inI n1) (i2 : inI d1) (i3 : inI n2) (i4 : inI d2) (h : ¬ (Rat.chk n1 d1 ∧ Rat.chk n2 d2)) (w : World) :
    Calls Tryd.prog 43 #[.agg #[.int .i64 n1, .int .i64 d1], .agg #[.int .i64 n2, .int .i64 d2]] w fun e w' => e = .returned (.bool false) ∧ Below w.heap.size w w' := by
  by_cases hx : Rat.chk n1 d1
  · have A := Lib.hid fun w => check_yes n1 d1 hx w
    have B := Lib.hid fun w => check_no n2 d2 i3 i4 (fun hy => h ⟨hx, hy⟩) w
    clear hx h
    go_enter Tryd.func43, Tryd.ntmps43
    go_wp2_with fail
    with_reducible refine (A.out _).mono ?_
    rintro e w1 ⟨rfl, hb1⟩
    have T1 := Lib.hid (P2.step hb1 (P2.start w n1 d1 n2 d2))
    clear hb1 A
    obtain ⟨_, u1, u2, u3, u4⟩ := T1.out.all
    go_wp2_with fail
    with_reducible refine (B.out _).mono ?_
    rintro e w2 ⟨rfl, hb2⟩
    have T2 := Lib.hid (P2.step hb2 T1.out)
    clear hb2 B T1 u1 u2 u3 u4
    go_wp2
    go_ret
    exact ⟨rfl, T2.out.has.1⟩
  · have A := Lib.hid fun w => check_no n1 d1 i1 i2 hx w
    clear hx h
    go_enter Tryd.func43, Tryd.ntmps43
    go_wp2_with fail
    with_reducible refine (A.out _).mono ?_
    rintro e w1 ⟨rfl, hb1⟩
    have T1 := Lib.hid (P2.step hb1 (P2.start w n1 d1 n2 d2))
    clear hb1 A
    obtain ⟨_, u1, u2, u3, u4⟩ := T1.out.all
    go_wp2
    go_ret
    exact ⟨rfl, T1.out.has.1⟩
/-- A quotient, as it is reduced. -/
theorem make_Q (num : Int) (den : Nat) (h : den ≠ 0) : Rat.makeOut num den = Rat.outQ (mkRat num den) := by
  unfold Rat.makeOut Rat.outQ
  rw [mkRat, dif_neg h, Rat.norm_num', Rat.norm_den']
  have hg : 0 < Nat.gcd num.natAbs den := Nat.gcd_pos_of_pos_right _ (by omega)
  have e1 : (den : Int).sign = 1 := Rat.sign_pos' (by omega)
  have e2 : num.sign * (den : Int).sign * ((num.natAbs / Nat.gcd num.natAbs (den : Int).natAbs : Nat) : Int) = num / ((Nat.gcd num.natAbs den : Nat) : Int) := by
    rw [e1, Int.mul_one, Int.natAbs_natCast]
    obtain ⟨k, hk⟩ := Nat.gcd_dvd_left num.natAbs den
    generalize Nat.gcd num.natAbs den = g at *
    rw [hk, Nat.mul_div_cancel_left _ hg]
    have e3 : num = (g : Int) * (num.sign * k) := by
      conv => lhs; rw [← Int.sign_mul_natAbs num, hk]
      push_cast
      ac_rfl
    conv => rhs; rw [e3]
    rw [Int.mul_ediv_cancel_left _ (by omega)]
  rw [e2, Int.natAbs_natCast]
theorem make_add {n1 n2 : Int} {D1 D2 : Nat} (h1 : D1 ≠ 0) (h2 : D2 ≠ 0) : Rat.makeOut (n1 * D2 + n2 * D1) ((D1 : Int) * D2) = Rat.outQ (Rat.toQ n1 D1 + Rat.toQ n2 D2) := by
  have h := make_Q (n1 * D2 + n2 * D1) (D1 * D2) (Nat.mul_ne_zero h1 h2)
  unfold Rat.toQ
  rw [Rat.mkRat_add_mkRat _ _ h1 h2, ← h]
  push_cast
  rfl
theorem make_mul {n1 n2 : Int} {D1 D2 : Nat} (h1 : D1 ≠ 0) (h2 : D2 ≠ 0) : Rat.makeOut (n1 * n2) ((D1 : Int) * D2) = Rat.outQ (Rat.toQ n1 D1 * Rat.toQ n2 D2) := by
  have h := make_Q (n1 * n2) (D1 * D2) (Nat.mul_ne_zero h1 h2)
  unfold Rat.toQ
  rw [Rat.mkRat_mul_mkRat, ← h]
  push_cast
  rfl
theorem far_two {a b : Int} (ha : a.natAbs ≤ 1152921504606846976) (hb : b.natAbs ≤ 1152921504606846976) : (a * b).natAbs ≤ 1329227995784915872903807060280344576 := by
  rw [Int.natAbs_mul]
  exact Nat.mul_le_mul ha hb
theorem chk_bounds {n d : Int} (h : Rat.chk n d) : n.natAbs ≤ 1152921504606846976 ∧ d.natAbs ≤ 1152921504606846976 ∧ 1 ≤ d ∧ inI n ∧ inI d := by
  obtain ⟨h1, h2, h3⟩ := h
  unfold inI
  omega
theorem add_any (n1 d1 n2 d2 : Int) (i1 : inI n1) (i2 : inI d1) (i3 : inI n2) (i4 : inI d2) (w : World) :
    Calls Tryd.prog 20 #[.agg #[.int .i64 n1, .int .i64 d1], .agg #[.int .i64 n2, .int .i64 d2]] w fun e w' => e = .returned (Rat.opOut (· + ·) n1 d1 n2 d2) ∧ Below w.heap.size w w' := by
  by_cases h : Rat.chk n1 d1 ∧ Rat.chk n2 d2
  · rw [Rat.opOut_yes h]
    have VA := Lib.hid fun w => valid_yes n1 d1 n2 d2 h.1 h.2 w
    obtain ⟨D1, rfl, hx⟩ := Rat.chk_nat h.1
    obtain ⟨D2, rfl, hy⟩ := Rat.chk_nat h.2
    clear h
    obtain ⟨b1, b2, b3, _, _⟩ := chk_bounds hx
    obtain ⟨b4, b5, b6, _, _⟩ := chk_bounds hy
    have hm := make_add (n1 := n1) (n2 := n2) (D1 := D1) (D2 := D2) (by omega) (by omega)
    rw [Int.toNat_natCast, Int.toNat_natCast, ← hm]
    have f1 := far_two b1 b5
    have f2 := far_two b4 b2
    have f3 := far_two b2 b5
    have hd0 : ((D1 : Int) * D2) ≠ 0 := Int.mul_ne_zero (by omega) (by omega)
    have RE := Lib.hid fun w => reduced_any (n1 * D2 + n2 * D1) ((D1 : Int) * D2) (by unfold far; omega) (by unfold far; omega) hd0 w
    have PA := Lib.hid fun w => product_any n1 D2 i1 i4 w
    have PB := Lib.hid fun w => product_any n2 D1 i3 i2 w
    have PC := Lib.hid fun w => plus_any (n1 * D2) (n2 * D1) w
    have PD := Lib.hid fun w => product_any D1 D2 i2 i4 w
    rcases redV_pair (n1 * D2 + n2 * D1) ((D1 : Int) * D2) hd0 with ⟨a, b, h1, h2⟩ | ⟨h1, h2⟩
    · rw [h1] at RE
      rw [h2]
      exact add_ok_raw n1 D1 n2 D2 _ _ _ _ _ _ _ _ a b VA PA PB PC PD RE w
    · rw [h1] at RE
      rw [h2]
      exact add_over_raw n1 D1 n2 D2 _ _ _ _ _ _ _ _ VA PA PB PC PD RE w
  · rw [Rat.opOut_no h]
    exact add_no_raw n1 d1 n2 d2 (Lib.hid fun w => valid_no n1 d1 n2 d2 i1 i2 i3 i4 h w) w
theorem mul_any (n1 d1 n2 d2 : Int) (i1 : inI n1) (i2 : inI d1) (i3 : inI n2) (i4 : inI d2) (w : World) :
    Calls Tryd.prog 24 #[.agg #[.int .i64 n1, .int .i64 d1], .agg #[.int .i64 n2, .int .i64 d2]] w fun e w' => e = .returned (Rat.opOut (· * ·) n1 d1 n2 d2) ∧ Below w.heap.size w w' := by
  by_cases h : Rat.chk n1 d1 ∧ Rat.chk n2 d2
  · rw [Rat.opOut_yes h]
    have VA := Lib.hid fun w => valid_yes n1 d1 n2 d2 h.1 h.2 w
    obtain ⟨D1, rfl, hx⟩ := Rat.chk_nat h.1
    obtain ⟨D2, rfl, hy⟩ := Rat.chk_nat h.2
    clear h
    obtain ⟨b1, b2, b3, _, _⟩ := chk_bounds hx
    obtain ⟨b4, b5, b6, _, _⟩ := chk_bounds hy
    have hm := make_mul (n1 := n1) (n2 := n2) (D1 := D1) (D2 := D2) (by omega) (by omega)
    rw [Int.toNat_natCast, Int.toNat_natCast, ← hm]
    have f1 := far_two b1 b4
    have f3 := far_two b2 b5
    have hd0 : ((D1 : Int) * D2) ≠ 0 := Int.mul_ne_zero (by omega) (by omega)
    have RE := Lib.hid fun w => reduced_any (n1 * n2) ((D1 : Int) * D2) (by unfold far; omega) (by unfold far; omega) hd0 w
    have PA := Lib.hid fun w => product_any n1 n2 i1 i3 w
    have PB := Lib.hid fun w => product_any D1 D2 i2 i4 w
    rcases redV_pair (n1 * n2) ((D1 : Int) * D2) hd0 with ⟨a, b, h1, h2⟩ | ⟨h1, h2⟩
    · rw [h1] at RE
      rw [h2]
      exact mul_ok_raw n1 D1 n2 D2 _ _ _ _ a b VA PA PB RE w
    · rw [h1] at RE
      rw [h2]
      exact mul_over_raw n1 D1 n2 D2 _ _ _ _ VA PA PB RE w
  · rw [Rat.opOut_no h]
    exact mul_no_raw n1 d1 n2 d2 (Lib.hid fun w => valid_no n1 d1 n2 d2 i1 i2 i3 i4 h w) w
end Go.Proofs.YtbhlpcomgfmodaaDoor.Pro
