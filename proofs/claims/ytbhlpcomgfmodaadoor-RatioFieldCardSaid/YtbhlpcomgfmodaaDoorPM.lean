/- The program's Check and valid. -/
import Derived.Test.YtbhlpcomgfmodaaDoorPL
set_option linter.unusedVariables false
set_option linter.unusedSimpArgs false
namespace Go.Proofs.YtbhlpcomgfmodaaDoor.Pro
open Go.RowKit

theorem div_one_of {d : Int} {g : Nat} (hd : d ≠ 0) (h : ((d.natAbs / g : Nat) : Int) = d) : 1 ≤ d ∧ g = 1 := by
  have h1 : 0 ≤ d := by rw [← h]; exact Int.natCast_nonneg _
  refine ⟨by omega, ?_⟩
  rcases Nat.lt_or_ge g 2 with h2 | h2
  · rcases Nat.eq_zero_or_pos g with h3 | h3
    · subst h3; simp at h; omega
    · omega
  · have := Nat.div_lt_self (show 0 < d.natAbs by omega) (show 1 < g by omega)
    generalize d.natAbs / g = q at *
    omega
theorem make_chk_yes {n d : Int} (h : Rat.chk n d) : Rat.makeOut n d = .tuple #[.agg #[.int .i64 n, .int .i64 d], .int .i64 0] := by
  obtain ⟨h1, h2, h3⟩ := h
  unfold Rat.makeOut
  rw [h3, Nat.div_one, Nat.div_one]
  have e1 : n.sign * d.sign * (n.natAbs : Int) = n := by
    rw [Rat.sign_pos' (show 0 < d by omega), Int.mul_one, Int.sign_mul_natAbs]
  have e2 : ((d.natAbs : Nat) : Int) = d := by omega
  rw [e1, e2]
  exact Rat.pairOut_yes (by omega) (by omega)
theorem make_chk_no {n d a b : Int} (hd : d ≠ 0) (h : ¬ Rat.chk n d) (he : Rat.makeOut n d = .tuple #[.agg #[.int .i64 a, .int .i64 b], .int .i64 0]) : ¬ (n = a ∧ d = b) := by
  rintro ⟨rfl, rfl⟩
  apply h
  unfold Rat.makeOut at he
  by_cases hf : (n.sign * d.sign * ((n.natAbs / Nat.gcd n.natAbs d.natAbs : Nat) : Int)).natAbs ≤ 1152921504606846976 ∧ ((d.natAbs / Nat.gcd n.natAbs d.natAbs : Nat) : Int).natAbs ≤ 1152921504606846976
  · rw [Rat.pairOut_yes hf.1 hf.2] at he
    simp only [Value.tuple.injEq, Array.mk.injEq, List.cons.injEq, Value.agg.injEq, Value.int.injEq, true_and, and_true] at he
    obtain ⟨e1, e2⟩ := he
    rw [e1, e2] at hf
    obtain ⟨h1, h2⟩ := div_one_of hd e2
    exact ⟨⟨h1, by omega⟩, ⟨by omega, by omega⟩, h2⟩
  · rw [Rat.pairOut_no hf] at he
    simp at he
theorem make_form (n d : Int) (hd : d ≠ 0) : ∃ a b x : Int, Rat.makeOut n d = .tuple #[.agg #[.int .i64 a, .int .i64 b], .int .i64 x] ∧ (x = 0 ∨ x = 14) := by
  rcases redV_pair n d hd with ⟨a, b, _, h⟩ | ⟨_, h⟩
  · exact ⟨a, b, 0, h, .inl rfl⟩
  · exact ⟨0, 0, 14, h, .inr rfl⟩

set_option maxHeartbeats 2000000 in
set_option maxRecDepth 100000 in
theorem check_same (n d : Int) (MK : Hid (∀ w : World, Calls Tryd.prog 11 #[.int .i64 n, .int .i64 d] w fun e w' => e = .returned (.tuple #[.agg #[.int .i64 n, .int .i64 d], .int .i64 0]) ∧ Below w.heap.size w w')) (w : World) :
    Calls Tryd.prog 13 #[.agg #[.int .i64 n, .int .i64 d]] w fun e w' => e = .returned (.int .i64 0) ∧ Below w.heap.size w w' := by
  go_enter Tryd.func13, Tryd.ntmps13
  go_wp2_with fail
  refine (MK.out _).mono ?_
  rintro e w1 ⟨rfl, hb1⟩
  have T1 := Lib.hid (((Has.start w).alloc #[.int .i64 n, .int .i64 d] 23).step hb1)
  clear hb1
  obtain ⟨c0, c1⟩ := cells2 (T1.out.row (List.mem_singleton.2 rfl))
  have hlt : w.heap.size < w1.heap.size := T1.out.lt (List.mem_singleton.2 rfl)
  go_wp2
  go_ret
  exact ⟨rfl, T1.out.1.alloc T1.out.1.size _⟩
set_option maxHeartbeats 2000000 in
set_option maxRecDepth 100000 in
theorem check_err (n d a b x : Int) (hx : ¬ x = 0) (MK : Hid (∀ w : World, Calls Tryd.prog 11 #[.int .i64 n, .int .i64 d] w fun e w' => e = .returned (.tuple #[.agg #[.int .i64 a, .int .i64 b], .int .i64 x]) ∧ Below w.heap.size w w')) (w : World) :
    Calls Tryd.prog 13 #[.agg #[.int .i64 n, .int .i64 d]] w fun e w' => e = .returned (.int .i64 1) ∧ Below w.heap.size w w' := by
  have hxb : (x != 0) = true := by simp [hx]
  go_enter Tryd.func13, Tryd.ntmps13
  go_wp2_with fail
  refine (MK.out _).mono ?_
  rintro e w1 ⟨rfl, hb1⟩
  have T1 := Lib.hid (((Has.start w).alloc #[.int .i64 n, .int .i64 d] 23).step hb1)
  clear hb1
  obtain ⟨c0, c1⟩ := cells2 (T1.out.row (List.mem_singleton.2 rfl))
  have hlt : w.heap.size < w1.heap.size := T1.out.lt (List.mem_singleton.2 rfl)
  go_wp2
  go_ret
  exact ⟨rfl, T1.out.1.alloc T1.out.1.size _⟩
set_option maxHeartbeats 2000000 in
set_option maxRecDepth 100000 in
theorem check_diff (n d a b : Int) (hn : ¬ (n = a ∧ d = b)) (MK : Hid (∀ w : World, Calls Tryd.prog 11 #[.int .i64 n, .int .i64 d] w fun e w' => e = .returned (.tuple #[.agg #[.int .i64 a, .int .i64 b], .int .i64 0]) ∧ Below w.heap.size w w')) (w : World) :
    Calls Tryd.prog 13 #[.agg #[.int .i64 n, .int .i64 d]] w fun e w' => e = .returned (.int .i64 1) ∧ Below w.heap.size w w' := by
  by_cases h1 : n = a
  · have h2 : ¬ d = b := fun h => hn ⟨h1, h⟩
    clear hn
    subst h1
    go_enter Tryd.func13, Tryd.ntmps13
    go_wp2_with fail
    refine (MK.out _).mono ?_
    rintro e w1 ⟨rfl, hb1⟩
    have T1 := Lib.hid (((Has.start w).alloc #[.int .i64 n, .int .i64 d] 23).step hb1)
    clear hb1
    obtain ⟨c0, c1⟩ := cells2 (T1.out.row (List.mem_singleton.2 rfl))
    have hlt : w.heap.size < w1.heap.size := T1.out.lt (List.mem_singleton.2 rfl)
    go_wp2
    go_ret
    exact ⟨rfl, T1.out.1.alloc T1.out.1.size _⟩
  · clear hn
    go_enter Tryd.func13, Tryd.ntmps13
    go_wp2_with fail
    refine (MK.out _).mono ?_
    rintro e w1 ⟨rfl, hb1⟩
    have T1 := Lib.hid (((Has.start w).alloc #[.int .i64 n, .int .i64 d] 23).step hb1)
    clear hb1
    obtain ⟨c0, c1⟩ := cells2 (T1.out.row (List.mem_singleton.2 rfl))
    have hlt : w.heap.size < w1.heap.size := T1.out.lt (List.mem_singleton.2 rfl)
    go_wp2
    go_ret
    exact ⟨rfl, T1.out.1.alloc T1.out.1.size _⟩
theorem check_yes (n d : Int) (h : Rat.chk n d) (w : World) :
    Calls Tryd.prog 13 #[.agg #[.int .i64 n, .int .i64 d]] w fun e w' => e = .returned (.int .i64 0) ∧ Below w.heap.size w w' := by
  have hm := fun w => make_any n d (by obtain ⟨h1, h2, h3⟩ := h; unfold inI; omega) (by obtain ⟨h1, h2, h3⟩ := h; unfold inI; omega) (by obtain ⟨h1, h2, h3⟩ := h; omega) w
  rw [make_chk_yes h] at hm
  exact check_same n d (Lib.hid hm) w
theorem check_no (n d : Int) (i1 : inI n) (i2 : inI d) (h : ¬ Rat.chk n d) (w : World) :
    Calls Tryd.prog 13 #[.agg #[.int .i64 n, .int .i64 d]] w fun e w' => e = .returned (.int .i64 1) ∧ Below w.heap.size w w' := by
  by_cases hd : d = 0
  · subst hd
    exact check_err n 0 0 0 26 (by decide) (Lib.hid fun w => make_zero n w) w
  · have hm := fun w => make_any n d i1 i2 hd w
    obtain ⟨a, b, x, he, hx⟩ := make_form n d hd
    rcases hx with rfl | rfl
    · have hne := make_chk_no hd h he
      rw [he] at hm
      exact check_diff n d a b hne (Lib.hid hm) w
    · rw [he] at hm
      exact check_err n d a b 14 (by decide) (Lib.hid hm) w
end Go.Proofs.YtbhlpcomgfmodaaDoor.Pro
