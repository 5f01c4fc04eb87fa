/- The program's valid, Add, Mul, Sub. The program's Sub, Div, Compare, Floor. The program's Div, Floor. -/
import Derived.Test.YtffnopdpndpngaaMPj
import Derived.Test.YtffnopdpndpngaaMRb
set_option linter.unusedVariables false
set_option linter.unusedSimpArgs false
namespace Go.Proofs.Ytffnopdpndpngaa.Pro
open Go.RowKit

/-- Two fractions in their blocks. -/
structure P2 (w : World) (n1 d1 n2 d2 : Int) (V : World) : Prop where
  has : Has w [(w.heap.size, #[.int .i64 n1, .int .i64 d1], 42), (w.heap.size + 1, #[.int .i64 n2, .int .i64 d2], 42)] V
theorem P2.start (w : World) (n1 d1 n2 d2 : Int) : P2 w n1 d1 n2 d2 ((w.alloc (.cells #[.int .i64 n1, .int .i64 d1] 42)).alloc (.cells #[.int .i64 n2, .int .i64 d2] 42)) := by
  have h := ((Has.start w).alloc #[.int .i64 n1, .int .i64 d1] 42).alloc #[.int .i64 n2, .int .i64 d2] 42
  simp only [World.size_alloc] at h
  exact ⟨h.sub (by simp)⟩
theorem P2.step {w V V2 : World} {n1 d1 n2 d2 : Int} (hb : Below V.heap.size V V2) (h : P2 w n1 d1 n2 d2 V) : P2 w n1 d1 n2 d2 V2 := ⟨h.has.step hb⟩
theorem P2.drew {w V : World} {n1 d1 n2 d2 : Int} (h : P2 w n1 d1 n2 d2 V) : P2 w n1 d1 n2 d2 V.drew := ⟨h.has.drew⟩
theorem P2.all {w V : World} {n1 d1 n2 d2 : Int} (h : P2 w n1 d1 n2 d2 V) : P2 w n1 d1 n2 d2 V ∧ V.cell? ⟨w.heap.size, 0, none⟩ = some (.int .i64 n1) ∧ V.cell? ⟨w.heap.size, 1, none⟩ = some (.int .i64 d1) ∧ V.cell? ⟨w.heap.size + 1, 0, none⟩ = some (.int .i64 n2) ∧ V.cell? ⟨w.heap.size + 1, 1, none⟩ = some (.int .i64 d2) :=
  have ha := cells2 (h.has.row (b := w.heap.size) (cs := #[.int .i64 n1, .int .i64 d1]) (t := 42) (by simp))
  have hb := cells2 (h.has.row (b := w.heap.size + 1) (cs := #[.int .i64 n2, .int .i64 d2]) (t := 42) (by simp))
  ⟨h, ha.1, ha.2, hb.1, hb.2⟩
structure P2k (w : World) (n1 d1 n2 d2 : Int) (V : World) : Prop where
  out : P2 w n1 d1 n2 d2 V
set_option maxHeartbeats 1000000 in
set_option maxRecDepth 100000 in
theorem valid_yes (n1 d1 n2 d2 : Int) (hx : Rat.chk n1 d1) (hy : Rat.chk n2 d2) (w : World) :
    Calls Try.prog 72 #[.agg #[.int .i64 n1, .int .i64 d1], .agg #[.int .i64 n2, .int .i64 d2]] w fun e w' => e = .returned (.bool true) ∧ Below w.heap.size w w' := by
  have A := Lib.hid fun w => check_yes n1 d1 hx w
  have B := Lib.hid fun w => check_yes n2 d2 hy w
  clear hx hy
  go_enter Try.func72, Try.ntmps72
  go_wp2_with fail
  with_reducible refine (A.out _).mono ?_
  rintro e w1 ⟨rfl, hb1⟩
  have T1 := Lib.hid (P2.step hb1 (P2.start w n1 d1 n2 d2))
  clear hb1 A
  obtain ⟨_, u1, u2, u3, u4⟩ := T1.out.all
  go_wp2_with fail
  with_reducible refine (B.out _).mono ?_
  rintro e w2 ⟨rfl, hb2⟩
  have T2 := Lib.hid (P2.step hb2 T1.out)
  clear hb2 B T1 u1 u2 u3 u4
  go_wp2
  go_ret
  exact ⟨rfl, T2.out.has.1⟩
set_option maxHeartbeats 1000000 in
set_option maxRecDepth 100000 in
theorem valid_no (n1 d1 n2 d2 : Int) (i1 : inI n1) (i2 : inI d1) (i3 : inI n2) (i4 : inI d2) (h : ¬ (Rat.chk n1 d1 ∧ Rat.chk n2 d2)) (w : World) :
    Calls Try.prog 72 #[.agg #[.int .i64 n1, .int .i64 d1], .agg #[.int .i64 n2, .int .i64 d2]] w fun e w' => e = .returned (.bool false) ∧ Below w.heap.size w w' := by
  by_cases hx : Rat.chk n1 d1
  · have A := Lib.hid fun w => check_yes n1 d1 hx w
    have B := Lib.hid fun w => check_no n2 d2 i3 i4 (fun hy => h ⟨hx, hy⟩) w
    clear hx h
    go_enter Try.func72, Try.ntmps72
    go_wp2_with fail
    with_reducible refine (A.out _).mono ?_
    rintro e w1 ⟨rfl, hb1⟩
    have T1 := Lib.hid (P2.step hb1 (P2.start w n1 d1 n2 d2))
    clear hb1 A
    obtain ⟨_, u1, u2, u3, u4⟩ := T1.out.all
    go_wp2_with fail
    with_reducible refine (B.out _).mono ?_
    rintro e w2 ⟨rfl, hb2⟩
    have T2 := Lib.hid (P2.step hb2 T1.out)
    clear hb2 B T1 u1 u2 u3 u4
    go_wp2
    go_ret
    exact ⟨rfl, T2.out.has.1⟩
  · have A := Lib.hid fun w => check_no n1 d1 i1 i2 hx w
    clear hx h
    go_enter Try.func72, Try.ntmps72
    go_wp2_with fail
    with_reducible refine (A.out _).mono ?_
    rintro e w1 ⟨rfl, hb1⟩
    have T1 := Lib.hid (P2.step hb1 (P2.start w n1 d1 n2 d2))
    clear hb1 A
    obtain ⟨_, u1, u2, u3, u4⟩ := T1.out.all
    go_wp2
    go_ret
    exact ⟨rfl, T1.out.has.1⟩
/-- A quotient, as it is reduced. -/
theorem make_Q (num : Int) (den : Nat) (h : den ≠ 0) : Rat.makeOut num den = Rat.outQ (mkRat num den) := by
  unfold Rat.makeOut Rat.outQ
  rw [mkRat, dif_neg h, Rat.norm_num', Rat.norm_den']
  have hg : 0 < Nat.gcd num.natAbs den := Nat.gcd_pos_of_pos_right _ (by omega)
  have e1 : (den : Int).sign = 1 := Rat.sign_pos' (by omega)
  have e2 : num.sign * (den : Int).sign * ((num.natAbs / Nat.gcd num.natAbs (den : Int).natAbs : Nat) : Int) = num / ((Nat.gcd num.natAbs den : Nat) : Int) := by
    rw [e1, Int.mul_one, Int.natAbs_natCast]
    obtain ⟨k, hk⟩ := Nat.gcd_dvd_left num.natAbs den
    generalize Nat.gcd num.natAbs den = g at *
    rw [hk, Nat.mul_div_cancel_left _ hg]
    have e3 : num = (g : Int) * (num.sign * k) := by
      conv => lhs; rw [← Int.sign_mul_natAbs num, hk]
      push_cast
      ac_rfl
    conv => rhs; rw [e3]
    rw [Int.mul_ediv_cancel_left _ (by omega)]
  rw [e2, Int.natAbs_natCast]
theorem make_add {n1 n2 : Int} {D1 D2 : Nat} (h1 : D1 ≠ 0) (h2 : D2 ≠ 0) : Rat.makeOut (n1 * D2 + n2 * D1) ((D1 : Int) * D2) = Rat.outQ (Rat.toQ n1 D1 + Rat.toQ n2 D2) := by
  have h := make_Q (n1 * D2 + n2 * D1) (D1 * D2) (Nat.mul_ne_zero h1 h2)
  unfold Rat.toQ
  rw [Rat.mkRat_add_mkRat _ _ h1 h2, ← h]
  push_cast
  rfl
theorem make_mul {n1 n2 : Int} {D1 D2 : Nat} (h1 : D1 ≠ 0) (h2 : D2 ≠ 0) : Rat.makeOut (n1 * n2) ((D1 : Int) * D2) = Rat.outQ (Rat.toQ n1 D1 * Rat.toQ n2 D2) := by
  have h := make_Q (n1 * n2) (D1 * D2) (Nat.mul_ne_zero h1 h2)
  unfold Rat.toQ
  rw [Rat.mkRat_mul_mkRat, ← h]
  push_cast
  rfl
theorem far_two {a b : Int} (ha : a.natAbs ≤ 1152921504606846976) (hb : b.natAbs ≤ 1152921504606846976) : (a * b).natAbs ≤ 1329227995784915872903807060280344576 := by
  rw [Int.natAbs_mul]
  exact Nat.mul_le_mul ha hb
theorem chk_bounds {n d : Int} (h : Rat.chk n d) : n.natAbs ≤ 1152921504606846976 ∧ d.natAbs ≤ 1152921504606846976 ∧ 1 ≤ d ∧ inI n ∧ inI d := by
  obtain ⟨h1, h2, h3⟩ := h
  unfold inI
  omega
theorem mul_any (n1 d1 n2 d2 : Int) (i1 : inI n1) (i2 : inI d1) (i3 : inI n2) (i4 : inI d2) (w : World) :
    Calls Try.prog 49 #[.agg #[.int .i64 n1, .int .i64 d1], .agg #[.int .i64 n2, .int .i64 d2]] w fun e w' => e = .returned (Rat.opOut (· * ·) n1 d1 n2 d2) ∧ Below w.heap.size w w' := by
  by_cases h : Rat.chk n1 d1 ∧ Rat.chk n2 d2
  · rw [Rat.opOut_yes h]
    have VA := Lib.hid fun w => valid_yes n1 d1 n2 d2 h.1 h.2 w
    obtain ⟨D1, rfl, hx⟩ := Rat.chk_nat h.1
    obtain ⟨D2, rfl, hy⟩ := Rat.chk_nat h.2
    clear h
    obtain ⟨b1, b2, b3, _, _⟩ := chk_bounds hx
    obtain ⟨b4, b5, b6, _, _⟩ := chk_bounds hy
    have hm := make_mul (n1 := n1) (n2 := n2) (D1 := D1) (D2 := D2) (by omega) (by omega)
    rw [Int.toNat_natCast, Int.toNat_natCast, ← hm]
    have f1 := far_two b1 b4
    have f3 := far_two b2 b5
    have hd0 : ((D1 : Int) * D2) ≠ 0 := Int.mul_ne_zero (by omega) (by omega)
    have RE := Lib.hid fun w => reduced_any (n1 * n2) ((D1 : Int) * D2) (by unfold far; omega) (by unfold far; omega) hd0 w
    have PA := Lib.hid fun w => product_any n1 n2 i1 i3 w
    have PB := Lib.hid fun w => product_any D1 D2 i2 i4 w
    rcases redV_pair (n1 * n2) ((D1 : Int) * D2) hd0 with ⟨a, b, h1, h2⟩ | ⟨h1, h2⟩
    · rw [h1] at RE
      rw [h2]
      exact mul_ok_raw n1 D1 n2 D2 _ _ _ _ a b VA PA PB RE w
    · rw [h1] at RE
      rw [h2]
      exact mul_over_raw n1 D1 n2 D2 _ _ _ _ VA PA PB RE w
  · rw [Rat.opOut_no h]
    exact mul_no_raw n1 d1 n2 d2 (Lib.hid fun w => valid_no n1 d1 n2 d2 i1 i2 i3 i4 h w) w
end Go.Proofs.Ytffnopdpndpngaa.Pro
namespace Go.Proofs.Ytffnopdpndpngaa.Pro
open Go.RowKit

theorem opOut_form (q : _root_.Rat → _root_.Rat → _root_.Rat) (n1 d1 n2 d2 : Int) : ∃ a b x : Int, Rat.opOut q n1 d1 n2 d2 = .tuple #[.agg #[.int .i64 a, .int .i64 b], .int .i64 x] := by
  unfold Rat.opOut
  split
  · exact Rat.pairOut_form _ _
  · exact ⟨0, 0, 1, rfl⟩
theorem sub_add (n1 d1 n2 d2 : Int) (i3 : inI n2) : Rat.opOut (· - ·) n1 d1 n2 d2 = Rat.opOut (· + ·) n1 d1 (IntKind.i64.wrap (-n2)) d2 := by
  unfold inI at i3
  by_cases hmin : n2 = -9223372036854775808
  · have e : IntKind.i64.wrap (-n2) = n2 := by subst hmin; decide
    rw [e]
    have hn : ¬ (Rat.chk n1 d1 ∧ Rat.chk n2 d2) := fun h => by have := h.2.2.1; omega
    rw [Rat.opOut_no hn, Rat.opOut_no hn]
  · have e : IntKind.i64.wrap (-n2) = -n2 := IntWalk.i64_in _ (by omega)
    rw [e]
    by_cases h : Rat.chk n1 d1 ∧ Rat.chk n2 d2
    · obtain ⟨D2, rfl, hy⟩ := Rat.chk_nat h.2
      rw [Rat.opOut_yes h, Rat.opOut_yes ⟨h.1, Rat.chk_neg hy⟩, Rat.toQ_neg, _root_.Rat.sub_eq_add_neg]
    · have h' : ¬ (Rat.chk n1 d1 ∧ Rat.chk (-n2) d2) := fun hh => h ⟨hh.1, by
        obtain ⟨D2, rfl, hy⟩ := Rat.chk_nat hh.2
        have := Rat.chk_neg hy
        rwa [Int.neg_neg] at this⟩
      rw [Rat.opOut_no h, Rat.opOut_no h']
theorem wrap_inI (z : Int) : inI (IntKind.i64.wrap z) := by
  rw [IntKind.wrap_i64]; unfold inI; omega

end Go.Proofs.Ytffnopdpndpngaa.Pro
namespace Go.Proofs.Ytffnopdpndpngaa.Pro
open Go.RowKit

/-- Two fractions in their blocks, and the result's block. -/
structure F3 (w : World) (n1 d1 n2 d2 : Int) (V : World) : Prop where
  has : Has w [(w.heap.size, #[.int .i64 n1, .int .i64 d1], 42), (w.heap.size + 1, #[.int .i64 n2, .int .i64 d2], 42), (w.heap.size + 1 + 1, #[.int .i64 0, .int .i64 0], 42)] V
theorem F3.start (w : World) (n1 d1 n2 d2 : Int) : F3 w n1 d1 n2 d2 (((w.alloc (.cells #[.int .i64 n1, .int .i64 d1] 42)).alloc (.cells #[.int .i64 n2, .int .i64 d2] 42)).alloc (.cells #[.int .i64 0, .int .i64 0] 42)) := by
  have h := (((Has.start w).alloc #[.int .i64 n1, .int .i64 d1] 42).alloc #[.int .i64 n2, .int .i64 d2] 42).alloc #[.int .i64 0, .int .i64 0] 42
  simp only [World.size_alloc] at h
  exact ⟨h.sub (by simp)⟩
theorem F3.step {w V V2 : World} {n1 d1 n2 d2 : Int} (hb : Below V.heap.size V V2) (h : F3 w n1 d1 n2 d2 V) : F3 w n1 d1 n2 d2 V2 := ⟨h.has.step hb⟩
theorem F3.rowR {w V : World} {n1 d1 n2 d2 : Int} (h : F3 w n1 d1 n2 d2 V) : V.heap[w.heap.size + 1 + 1]? = some (.cells #[.int .i64 0, .int .i64 0] 42 (0, 0)) := h.has.row (by simp)
theorem F3.rowX {w V : World} {n1 d1 n2 d2 : Int} (h : F3 w n1 d1 n2 d2 V) : V.heap[w.heap.size]? = some (.cells #[.int .i64 n1, .int .i64 d1] 42 (0, 0)) := h.has.row (by simp)
theorem F3.rowY {w V : World} {n1 d1 n2 d2 : Int} (h : F3 w n1 d1 n2 d2 V) : V.heap[w.heap.size + 1]? = some (.cells #[.int .i64 n2, .int .i64 d2] 42 (0, 0)) := h.has.row (by simp)
theorem F3.lt {w V : World} {n1 d1 n2 d2 : Int} (h : F3 w n1 d1 n2 d2 V) : w.heap.size + 1 + 1 < V.heap.size := (Array.getElem?_eq_some_iff.1 h.rowR).1
theorem make_inv {n : Int} {D : Nat} (h : Rat.chk n D) (h0 : n ≠ 0) : Rat.makeOut (D : Int) n = .tuple #[.agg #[.int .i64 (n.sign * (D : Int)), .int .i64 (n.natAbs : Nat)], .int .i64 0] := by
  obtain ⟨h1, h2, h3⟩ := h
  rw [Int.natAbs_natCast] at h3
  unfold Rat.makeOut
  rw [Int.natAbs_natCast, Nat.gcd_comm, h3, Nat.div_one, Nat.div_one, Rat.sign_pos' (show (0 : Int) < D by omega), Int.one_mul]
  refine Rat.pairOut_yes ?_ (by omega)
  rcases Int.lt_or_gt_of_ne h0 with hs | hs
  · rw [Rat.sign_neg' hs]; omega
  · rw [Rat.sign_pos' hs]; omega

set_option maxHeartbeats 1000000 in
set_option maxRecDepth 100000 in
theorem floor_no (n d : Int) (i1 : inI n) (i2 : inI d) (hx : ¬ Rat.chk n d) (w : World) :
    Calls Try.prog 75 #[.agg #[.int .i64 n, .int .i64 d]] w fun e w' => e = .returned (.int .i64 0) ∧ Below w.heap.size w w' := by
  have KX := Lib.hid fun w => check_no n d i1 i2 hx w
  clear hx i1 i2
  go_enter Try.func75, Try.ntmps75
  go_wp2_with fail
  with_reducible refine (KX.out _).mono ?_
  rintro e w1 ⟨rfl, hb1⟩
  have T1 := Lib.hid (((Has.start w).alloc #[.int .i64 n, .int .i64 d] 42).step hb1)
  clear hb1 KX
  go_wp2
  go_ret
  exact ⟨rfl, T1.out.1⟩
theorem floor_math (n : Int) (D : Nat) (hn : n < 0) (hD : 0 < D) : (n.tmod D < 0 → n.tdiv D - 1 = n / (D : Int)) ∧ (0 ≤ n.tmod D → n.tdiv D = n / (D : Int)) ∧ n ≤ n.tdiv D ∧ n.tdiv D ≤ 0 := by
  have h1 := Int.mul_ediv_add_emod n (D : Int)
  have h2 := Int.emod_nonneg n (show (D : Int) ≠ 0 by omega)
  have h3 := Int.emod_lt_of_pos n (show 0 < (D : Int) by omega)
  obtain ⟨m, hm⟩ := Int.eq_ofNat_of_zero_le (show 0 ≤ -n by omega)
  have e0 : n = -(m : Int) := by omega
  have e1 : n.tdiv D = -((m / D : Nat) : Int) := by rw [e0, Int.neg_tdiv, Int.tdiv_eq_ediv_of_nonneg (by omega)]; simp
  have e2 : n.tmod D = -((m % D : Nat) : Int) := by rw [e0, Int.neg_tmod, Int.tmod_eq_emod_of_nonneg (by omega)]; simp
  have h4 := Nat.div_add_mod m D
  have h5 := Nat.mod_lt m hD
  have h6 : m / D ≤ m := Nat.div_le_self _ _
  rw [e1, e2]
  have e3 : (m : Int) = (D : Int) * ((m / D : Nat) : Int) + ((m % D : Nat) : Int) := by
    have h : ((D * (m / D) + m % D : Nat) : Int) = (m : Int) := by rw [h4]
    push_cast at h ⊢
    exact h.symm
  generalize m / D = q at *
  generalize m % D = r at *
  generalize n / (D : Int) = z at *
  generalize n % (D : Int) = y at *
  have key : (D : Int) * (z + q) = -(r : Int) - y := by rw [Int.mul_add]; omega
  have hlo : -2 < z + q := by
    rcases (show -2 < z + q ∨ z + q ≤ -2 by omega) with h | h
    · exact h
    · have := Int.mul_le_mul_of_nonneg_left h (show (0 : Int) ≤ D by omega)
      omega
  have hhi : z + q < 1 := by
    rcases (show z + q < 1 ∨ 1 ≤ z + q by omega) with h | h
    · exact h
    · have := Int.mul_le_mul_of_nonneg_left h (show (0 : Int) ≤ D by omega)
      omega
  have hc : z + q = -1 ∨ z + q = 0 := by omega
  refine ⟨fun hr => ?_, fun hr => ?_, by omega, by omega⟩
  · rcases hc with h | h
    · omega
    · rw [h] at key; omega
  · rcases hc with h | h
    · rw [h] at key; omega
    · omega
set_option maxHeartbeats 1000000 in
set_option maxRecDepth 100000 in
theorem floor_yes (n : Int) (D : Nat) (hx : Rat.chk n D) (w : World) :
    Calls Try.prog 75 #[.agg #[.int .i64 n, .int .i64 D]] w fun e w' => e = .returned (.int .i64 (n / (D : Int))) ∧ Below w.heap.size w w' := by
  have KX := Lib.hid fun w => check_yes n D hx w
  obtain ⟨⟨hd1, hd2⟩, ⟨hn1, hn2⟩, _⟩ := hx
  have hd0 : ¬ ((D : Int) = 0) := by omega
  have hd0' : ¬ (D = 0) := by omega
  by_cases hs : n < 0
  · go_enter Try.func75, Try.ntmps75
    go_wp2_with fail
    with_reducible refine (KX.out _).mono ?_
    rintro e w1 ⟨rfl, hb1⟩
    have T1 := Lib.hid (((Has.start w).alloc #[.int .i64 n, .int .i64 (D : Int)] 42).step hb1)
    clear hb1 KX
    obtain ⟨c0, c1⟩ := cells2 (T1.out.row (List.mem_singleton.2 rfl))
    obtain ⟨m1, m2, m3, m4⟩ := floor_math n D hs (by omega)
    have M := Lib.hid (And.intro m1 m2)
    clear m1 m2
    go_wp2
    · rename_i hr
      go_ret
      exact ⟨congrArg (fun z => Ending.returned (Value.int .i64 z)) (M.out.1 hr), T1.out.1⟩
    · rename_i hr
      go_ret
      exact ⟨congrArg (fun z => Ending.returned (Value.int .i64 z)) (M.out.2 hr), T1.out.1⟩
  · go_enter Try.func75, Try.ntmps75
    go_wp2_with fail
    with_reducible refine (KX.out _).mono ?_
    rintro e w1 ⟨rfl, hb1⟩
    have T1 := Lib.hid (((Has.start w).alloc #[.int .i64 n, .int .i64 (D : Int)] 42).step hb1)
    clear hb1 KX
    obtain ⟨c0, c1⟩ := cells2 (T1.out.row (List.mem_singleton.2 rfl))
    have hmn := Int.emod_nonneg n hd0
    go_wp2
    all_goals first
      | (exfalso; omega)
      | (go_ret
         exact ⟨rfl, T1.out.1⟩)
end Go.Proofs.Ytffnopdpndpngaa.Pro
