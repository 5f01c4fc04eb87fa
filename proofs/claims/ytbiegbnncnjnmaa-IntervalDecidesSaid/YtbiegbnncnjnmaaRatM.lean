/- The contracts of the reference of layer 3: Compare where it refuses, Floor, Div, Sub. -/
import Derived.Test.YtbiegbnncnjnmaaRatL
set_option linter.unusedVariables false
set_option linter.unusedSimpArgs false
namespace Go.Proofs.Ytbiegbnncnjnmaa.Rat
open Go.RowKit

set_option maxHeartbeats 1000000 in
theorem compare_no (n1 d1 n2 d2 : Int) (i1 : inI n1) (i2 : inI d1) (i3 : inI n2) (i4 : inI d2) (h : ¬ (chk n1 d1 ∧ chk n2 d2)) (w : World) :
    Calls Try.prog 39 #[.agg #[.int .i64 n1, .int .i64 d1], .agg #[.int .i64 n2, .int .i64 d2]] w fun e w' => e = .returned (.int .i64 0) ∧ Below w.heap.size w w' := by
  by_cases hx : chk n1 d1
  · have KX := Lib.hid fun w => check_yes n1 d1 hx w
    have KY := Lib.hid fun w => check_no n2 d2 i3 i4 (fun hy => h ⟨hx, hy⟩) w
    go_enter Try.func39, Try.ntmps39
    go_wp2_with fail
    refine (KX.out _).mono ?_
    rintro e w1 ⟨rfl, hb1⟩
    have T1 := Lib.hid (Pair.first hb1)
    obtain ⟨d0, d1'⟩ := cells2 T1.out.2.1
    clear hb1
    go_wp2_with fail
    refine (KY.out _).mono ?_
    rintro e w2 ⟨rfl, hb2⟩
    have T2 := Lib.hid (T1.out.step hb2)
    clear hb2 T1 d0 d1' KX KY
    go_wp2
    go_ret
    exact ⟨rfl, T2.out.2.2⟩
  · have KX := Lib.hid fun w => check_no n1 d1 i1 i2 hx w
    go_enter Try.func39, Try.ntmps39
    go_wp2_with fail
    refine (KX.out _).mono ?_
    rintro e w1 ⟨rfl, hb1⟩
    have T2 := Lib.hid (Pair.first hb1)
    clear hb1 KX
    go_wp2
    go_ret
    exact ⟨rfl, T2.out.2.2⟩

/-- A product of two fractions, as it is handed back. -/
def mulOut (n1 : Int) (D1 : Nat) (n2 : Int) (D2 : Nat) : Value :=
  pairOut (n1 / (Nat.gcd n1.natAbs D2 : Nat) * (n2 / (Nat.gcd n2.natAbs D1 : Nat))) ((D1 : Int) / (Nat.gcd n2.natAbs D1 : Nat) * ((D2 : Int) / (Nat.gcd n1.natAbs D2 : Nat)))
theorem chk_flip_pos {n : Int} {D : Nat} (h : chk n D) (hp : 0 < n) : chk (D : Int) n ∧ n = (n.natAbs : Nat) := by
  obtain ⟨h1, h2, h3⟩ := h
  refine ⟨⟨⟨by omega, by omega⟩, ⟨by omega, by omega⟩, by rw [Nat.gcd_comm]; exact h3⟩, by omega⟩
theorem chk_flip_neg {n : Int} {D : Nat} (h : chk n D) (hp : n < 0) : chk (-(D : Int)) (-n) ∧ -n = (n.natAbs : Nat) := by
  obtain ⟨h1, h2, h3⟩ := h
  refine ⟨⟨⟨by omega, by omega⟩, ⟨by omega, by omega⟩, ?_⟩, by omega⟩
  rw [Int.natAbs_neg, Int.natAbs_neg, Nat.gcd_comm]
  exact h3

set_option maxHeartbeats 1000000 in
theorem div_yes (n1 n2 : Int) (D1 D2 : Nat) (hx : chk n1 D1) (hy : chk n2 D2) (h0 : n2 ≠ 0) (w : World) :
    Calls Try.prog 59 #[.agg #[.int .i64 n1, .int .i64 D1], .agg #[.int .i64 n2, .int .i64 D2]] w fun e w' => e = .returned (mulOut n1 D1 (n2.sign * D2) n2.natAbs) ∧ Below w.heap.size w w' := by
  have KX := Lib.hid fun w => check_yes n1 D1 hx w
  have KY := Lib.hid fun w => check_yes n2 D2 hy w
  have z2 : ¬ (n2 == 0) = true := by simp [h0]
  have b2 := hy.2.1
  have b3 := hy.1
  by_cases hs : n2 < 0
  · obtain ⟨hf, he⟩ := chk_flip_neg hy hs
    rw [sign_neg' hs, show (-1 : Int) * (D2 : Int) = -(D2 : Int) by omega]
    rw [he] at hf
    have q := fun w => mul_yes n1 (-(D2 : Int)) D1 n2.natAbs hx hf w
    rw [← he] at q
    obtain ⟨px, py, pz, hp⟩ := pairOut_form (n1 / (Nat.gcd n1.natAbs n2.natAbs : Nat) * (-(D2 : Int) / (Nat.gcd (-(D2 : Int)).natAbs D1 : Nat))) ((D1 : Int) / (Nat.gcd (-(D2 : Int)).natAbs D1 : Nat) * (-n2 / (Nat.gcd n1.natAbs n2.natAbs : Nat)))
    unfold mulOut
    rw [← he]
    rw [hp] at q ⊢
    clear hp he hf
    have Q := Lib.hid q
    clear q
    go_enter Try.func59, Try.ntmps59
    go_wp2_with fail
    refine (KX.out _).mono ?_
    rintro e w1 ⟨rfl, hb1⟩
    have T1 := Lib.hid (Three.first hb1)
    obtain ⟨d0, d1⟩ := cells2 T1.out.2.1
    clear hb1
    go_wp2_with fail
    refine (KY.out _).mono ?_
    rintro e w2 ⟨rfl, hb2⟩
    have T2 := Lib.hid (T1.out.step hb2)
    clear hb2 T1 d0 d1 KX KY
    obtain ⟨a0, a1⟩ := cells2 T2.out.1
    obtain ⟨e0, e1⟩ := cells2 T2.out.2.1
    go_wp2_with fail
    refine (Q.out _).mono ?_
    rintro e w3 ⟨rfl, hb3⟩
    have T3 := Lib.hid (T2.out.step hb3)
    clear hb3 T2 a0 a1 e0 e1 Q
    obtain ⟨c0, c1⟩ := cells2 T3.out.2.2.1
    obtain ⟨f0, f1⟩ := frozen2 T3.out.2.2.1
    go_wp2
    refine bodyPost_ret (res_cell_tmp rfl _ _ (w.heap.size + 1 + 1) 23 _ (0, 0) _ rfl (set2 _ _ T3.out.2.2.1) Try.underlying23 rfl info23) rfl ?_
    exact ⟨rfl, T3.out.end2 _ _⟩
  · obtain ⟨hf, he⟩ := chk_flip_pos hy (by omega)
    rw [sign_pos' (show 0 < n2 by omega), Int.one_mul]
    rw [he] at hf
    have q := fun w => mul_yes n1 (D2 : Int) D1 n2.natAbs hx hf w
    rw [← he] at q
    obtain ⟨px, py, pz, hp⟩ := pairOut_form (n1 / (Nat.gcd n1.natAbs n2.natAbs : Nat) * ((D2 : Int) / (Nat.gcd (D2 : Int).natAbs D1 : Nat))) ((D1 : Int) / (Nat.gcd (D2 : Int).natAbs D1 : Nat) * (n2 / (Nat.gcd n1.natAbs n2.natAbs : Nat)))
    unfold mulOut
    rw [← he]
    rw [hp] at q ⊢
    clear hp he hf
    have Q := Lib.hid q
    clear q
    go_enter Try.func59, Try.ntmps59
    go_wp2_with fail
    refine (KX.out _).mono ?_
    rintro e w1 ⟨rfl, hb1⟩
    have T1 := Lib.hid (Three.first hb1)
    obtain ⟨d0, d1⟩ := cells2 T1.out.2.1
    clear hb1
    go_wp2_with fail
    refine (KY.out _).mono ?_
    rintro e w2 ⟨rfl, hb2⟩
    have T2 := Lib.hid (T1.out.step hb2)
    clear hb2 T1 d0 d1 KX KY
    obtain ⟨a0, a1⟩ := cells2 T2.out.1
    obtain ⟨e0, e1⟩ := cells2 T2.out.2.1
    go_wp2_with fail
    refine (Q.out _).mono ?_
    rintro e w3 ⟨rfl, hb3⟩
    have T3 := Lib.hid (T2.out.step hb3)
    clear hb3 T2 a0 a1 e0 e1 Q
    obtain ⟨c0, c1⟩ := cells2 T3.out.2.2.1
    obtain ⟨f0, f1⟩ := frozen2 T3.out.2.2.1
    go_wp2
    refine bodyPost_ret (res_cell_tmp rfl _ _ (w.heap.size + 1 + 1) 23 _ (0, 0) _ rfl (set2 _ _ T3.out.2.2.1) Try.underlying23 rfl info23) rfl ?_
    exact ⟨rfl, T3.out.end2 _ _⟩

set_option maxHeartbeats 1000000 in
theorem div_zero (n1 : Int) (D1 D2 : Nat) (hx : chk n1 D1) (hy : chk 0 D2) (w : World) :
    Calls Try.prog 59 #[.agg #[.int .i64 n1, .int .i64 D1], .agg #[.int .i64 0, .int .i64 D2]] w fun e w' => e = .returned (.tuple #[.agg #[.int .i64 0, .int .i64 0], .int .i64 26]) ∧ Below w.heap.size w w' := by
  have KX := Lib.hid fun w => check_yes n1 D1 hx w
  have KY := Lib.hid fun w => check_yes 0 D2 hy w
  go_enter Try.func59, Try.ntmps59
  go_wp2_with fail
  refine (KX.out _).mono ?_
  rintro e w1 ⟨rfl, hb1⟩
  have T1 := Lib.hid (Three.first hb1)
  obtain ⟨d0, d1⟩ := cells2 T1.out.2.1
  clear hb1
  go_wp2_with fail
  refine (KY.out _).mono ?_
  rintro e w2 ⟨rfl, hb2⟩
  have T2 := Lib.hid (T1.out.step hb2)
  clear hb2 T1 d0 d1 KX KY
  obtain ⟨e0, e1⟩ := cells2 T2.out.2.1
  obtain ⟨c0, c1⟩ := cells2 T2.out.2.2.1
  obtain ⟨f0, f1⟩ := frozen2 T2.out.2.2.1
  go_wp2
  refine bodyPost_ret (res_cell_tmp rfl _ _ (w.heap.size + 1 + 1) 23 _ (0, 0) _ rfl (set2 _ _ T2.out.2.2.1) Try.underlying23 rfl info23) rfl ?_
  exact ⟨rfl, T2.out.end2 _ _⟩

end Go.Proofs.Ytbiegbnncnjnmaa.Rat
