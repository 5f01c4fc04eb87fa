/- The program's reduced. The program's Make. The program's Check and valid. The program's Add and Mul: what their blocks hold. The program's Mul, over its callees. The program's Add, over its callees. -/
import Derived.Test.YtffnopdpndpngaaMPi
import Derived.Test.YtffnopdpndpngaaMPf
import Derived.Test.YtffnopdpndpngaaMRb
import Derived.Test.YtffnopdpndpngaaMPa
set_option linter.unusedVariables false
set_option linter.unusedSimpArgs false
namespace Go.Proofs.Ytffnopdpndpngaa.Pro
open Go.RowKit

/-- A number, if it fits. -/
def fit (a : Nat) : Option Int := if a ≤ 1152921504606846976 then some (a : Int) else none
/-- What is so small that nothing overflows. -/
def far (z : Int) : Prop := z.natAbs < 85070591730234615865843651857942052864
theorem narrow_any (a : Nat) (h : a < 85070591730234615865843651857942052864) (w : World) :
    Calls Try.prog 92 #[W a] w fun e w' => e = narE (fit a) ∧ Below w.heap.size w w' := by
  unfold fit
  by_cases h1 : a ≤ 1152921504606846976
  · rw [if_pos h1]; exact narrow_yes a h1 w
  · rw [if_neg h1]; exact narrow_no a h1 (by unfold near; omega) w
def redV (num den : Int) : Ending := redE (fit (num.natAbs / Nat.gcd num.natAbs den.natAbs)) (fit (den.natAbs / Nat.gcd num.natAbs den.natAbs)) (decide (num < 0) == decide (den < 0))
theorem reduced_any (num den : Int) (hn : far num) (hd : far den) (h0 : den ≠ 0) (w : World) :
    Calls Try.prog 73 #[W num, W den] w fun e w' => e = redV num den ∧ Below w.heap.size w w' := by
  unfold far at hn hd
  have hg : 0 < Nat.gcd num.natAbs den.natAbs := Nat.gcd_pos_of_pos_right _ (by omega)
  have hgl : Nat.gcd num.natAbs den.natAbs ≤ den.natAbs := Nat.gcd_le_right _ (by omega)
  have q1 : num.natAbs / Nat.gcd num.natAbs den.natAbs ≤ num.natAbs := Nat.div_le_self _ _
  have q2 : den.natAbs / Nat.gcd num.natAbs den.natAbs ≤ den.natAbs := Nat.div_le_self _ _
  refine reduced_raw _ _ _ _ _ _ _ _ _ _ _ _ _ _ _ _ _ _ _ _ _ _ ?_
    (Lib.hid fun w => magnitude_any num (by unfold near; omega) (by unfold near; omega) w)
    (Lib.hid fun w => magnitude_any den (by unfold near; omega) (by unfold near; omega) w)
    (Lib.hid fun w => gcd_any num.natAbs den.natAbs hn hd w)
    (Lib.hid fun w => divide_any num.natAbs (Nat.gcd num.natAbs den.natAbs) hg (by omega) hn w)
    (Lib.hid fun w => divide_any den.natAbs (Nat.gcd num.natAbs den.natAbs) hg (by omega) hd w)
    (Lib.hid fun w => narrow_any _ (by omega) w)
    (Lib.hid fun w => narrow_any _ (by omega) w)
    (Lib.hid fun w => negative_any num (by omega) (by omega) w)
    (Lib.hid fun w => negative_any den (by omega) (by omega) w) w
  intro x hx
  unfold fit at hx
  generalize num.natAbs / Nat.gcd num.natAbs den.natAbs = q at hx
  split at hx
  · injection hx with hx; omega
  · cases hx
/-- What a fraction that is to be reduced comes to: the reference's words for it. -/
theorem redV_pair (num den : Int) (h0 : den ≠ 0) :
    (∃ a b : Int, redV num den = .returned (.agg #[.int .i64 a, .int .i64 b]) ∧ Rat.makeOut num den = .tuple #[.agg #[.int .i64 a, .int .i64 b], .int .i64 0]) ∨
    (redV num den = over ∧ Rat.makeOut num den = .tuple #[.agg #[.int .i64 0, .int .i64 0], .int .i64 14]) := by
  unfold redV Rat.makeOut
  have hs : ∀ A : Nat, (if (decide (num < 0) == decide (den < 0)) then (A : Int) else -(A : Int)) = num.sign * den.sign * (A : Int) ∨ num = 0 := by
    intro A
    rcases Int.lt_trichotomy num 0 with h1 | h1 | h1
    · left
      rcases Int.lt_or_gt_of_ne h0 with h2 | h2
      · rw [decide_eq_true h1, decide_eq_true h2, Rat.sign_neg' h1, Rat.sign_neg' h2]; simp
      · rw [decide_eq_true h1, decide_eq_false (show ¬ den < 0 by omega), Rat.sign_neg' h1, Rat.sign_pos' h2]; simp
    · exact .inr h1
    · left
      rcases Int.lt_or_gt_of_ne h0 with h2 | h2
      · rw [decide_eq_false (show ¬ num < 0 by omega), decide_eq_true h2, Rat.sign_pos' h1, Rat.sign_neg' h2]; simp
      · rw [decide_eq_false (show ¬ num < 0 by omega), decide_eq_false (show ¬ den < 0 by omega), Rat.sign_pos' h1, Rat.sign_pos' h2]; simp
  have hz : num = 0 → num.natAbs / Nat.gcd num.natAbs den.natAbs = 0 := fun h => by subst h; simp
  generalize num.natAbs / Nat.gcd num.natAbs den.natAbs = A at *
  generalize den.natAbs / Nat.gcd num.natAbs den.natAbs = B at *
  have habs : (num.sign * den.sign * (A : Int)).natAbs = A := by
    rcases hs A with h | h
    · rw [← h]; split <;> simp
    · rw [hz h]; simp
  by_cases hA : A ≤ 1152921504606846976
  · by_cases hB : B ≤ 1152921504606846976
    · left
      refine ⟨num.sign * den.sign * (A : Int), (B : Int), ?_, Rat.pairOut_yes (by rw [habs]; exact hA) (by simpa using hB)⟩
      unfold fit
      rw [if_pos hA, if_pos hB]
      unfold redE
      rcases hs A with h | h
      · rw [← h]
      · have hz' := hz h
        subst hz'
        simp
    · right
      refine ⟨?_, Rat.pairOut_no (by rw [habs]; simpa using fun _ => by omega)⟩
      unfold fit redE
      rw [if_pos hA, if_neg hB]
  · right
    refine ⟨?_, Rat.pairOut_no (by rw [habs]; simpa using fun h => absurd h (by omega))⟩
    unfold fit redE
    rw [if_neg hA]
end Go.Proofs.Ytffnopdpndpngaa.Pro
namespace Go.Proofs.Ytffnopdpndpngaa.Pro
open Go.RowKit

theorem load24 {V : World} {k : Nat} {x : Int} (hk : V.heap[k]? = some (.cells #[.int .i64 x] 22 (0, 0))) : (loadVar 22 ⟨k, 0, none⟩).run Try.prog V = .ok (.int .i64 x) V := by
  have h := cells1 hk
  simp [go_sem, h]
/-- A fraction and an error, each in a block of its own. -/
theorem res_pair {fn : Func} {p q : Tmp} (h : fn.results = #[.cell p 42, .cell q 22]) (tmps : Array Value) (V : World) (g k : Nat) (n d x : Int)
    (hp : tmps.getD p undef = .pointer (some ⟨g, 0, none⟩)) (hq : tmps.getD q undef = .pointer (some ⟨k, 0, none⟩)) (hg : V.heap[g]? = some (.cells #[.int .i64 n, .int .i64 d] 42 (0, 0))) (hk : V.heap[k]? = some (.cells #[.int .i64 x] 22 (0, 0))) :
    (results fn tmps).run Try.prog V = .ok (.tuple #[.agg #[.int .i64 n, .int .i64 d], .int .i64 x]) V := by
  have hl := run_loadVar_row (P := Try.prog) V g 42 42 _ (0, 0) _ hg Try.underlying42 rfl info23
  have hl2 := load24 hk
  rw [Array.getD_eq_getD_getElem?] at hp hq
  simp only [results, h]
  simp [Sem.run_bind, hp, hq, asAddr, hl, hl2, Result.andThen, Sem.run_pure]

set_option maxHeartbeats 2000000 in
set_option maxRecDepth 100000 in
theorem make_zero (n : Int) (w : World) :
    Calls Try.prog 70 #[.int .i64 n, .int .i64 0] w fun e w' => e = .returned (.tuple #[.agg #[.int .i64 0, .int .i64 0], .int .i64 26]) ∧ Below w.heap.size w w' := by
  have hmf : ∀ (fn : Fn) (first cap : Array Value) (w : World), (Instr.makeFunc fn first cap).run Try.prog w = .ok (.func fn first cap) w := fun _ _ _ _ => rfl
  go_enter_defers Try.func70, Try.ntmps70
  go_wp2
  refine leaves_cons (f := 87) (args := #[.pointer (some ⟨w.heap.size + 1, 0, none⟩)]) (by simp) (by simp [go_sem]) ?_
  refine (make_idle ⟨w.heap.size + 1, 0, none⟩ _).mono ?_
  rintro e u' w'' ⟨rfl, rfl, rfl⟩
  exact ⟨_, res_pair rfl _ _ w.heap.size (w.heap.size + 1) 0 0 26 rfl rfl (heap_alloc2_old w _ _) (top2 w _ _), rfl, low2 w _ _⟩
/-- The result's two blocks. -/
def M2 (w : World) (n d x : Int) (V : World) : Prop := Has w [(w.heap.size, #[.int .i64 n, .int .i64 d], 42), (w.heap.size + 1, #[.int .i64 x], 22)] V
theorem M2.start (w : World) : M2 w 0 0 0 ((w.alloc (.cells #[.int .i64 0, .int .i64 0] 42)).alloc (.cells #[.int .i64 0] 22)) := by
  have h := (((Has.start w).alloc #[.int .i64 0, .int .i64 0] 42).alloc #[.int .i64 0] 22)
  simp only [World.size_alloc] at h
  exact h.sub (by simp)
theorem M2.step {w V V2 : World} {n d x : Int} (h : M2 w n d x V) (hb : Below V.heap.size V V2) : M2 w n d x V2 := Has.step h hb
theorem M2.g {w V : World} {n d x : Int} (h : M2 w n d x V) : V.heap[w.heap.size]? = some (.cells #[.int .i64 n, .int .i64 d] 42 (0, 0)) := h.row (by simp)
theorem M2.k {w V : World} {n d x : Int} (h : M2 w n d x V) : V.heap[w.heap.size + 1]? = some (.cells #[.int .i64 x] 22 (0, 0)) := h.row (by simp)
theorem M2.err {w V : World} {n d x : Int} (y : Int) (h : M2 w n d x V) : M2 w n d y (V.setCell ⟨w.heap.size + 1, 0, none⟩ (.int .i64 y)) := by
  have h1 : Has w [(w.heap.size + 1, #[.int .i64 x], 22), (w.heap.size, #[.int .i64 n, .int .i64 d], 42)] V := Has.sub h (by simp)
  exact (h1.set (by simp) 0 (.int .i64 y)).sub (by simp)
theorem M2.val {w V : World} {n d x : Int} (a b : Int) (h : M2 w n d x V) : M2 w a b x ((V.setCell ⟨w.heap.size, 0, none⟩ (.int .i64 a)).setCell ⟨w.heap.size, 1, none⟩ (.int .i64 b)) := by
  exact (Has.set (Has.set h (by simp) 0 (.int .i64 a)) (by simp) 1 (.int .i64 b)).sub (by simp)
set_option maxHeartbeats 2000000 in
set_option maxRecDepth 100000 in
theorem make_any (n d : Int) (i1 : inI n) (i2 : inI d) (h0 : d ≠ 0) (w : World) :
    Calls Try.prog 70 #[.int .i64 n, .int .i64 d] w fun e w' => e = .returned (Rat.makeOut n d) ∧ Below w.heap.size w w' := by
  have A := Lib.hid fun w => widen_any n i1 w
  have B := Lib.hid fun w => widen_any d i2 w
  have R := Lib.hid fun w => reduced_any n d (by unfold far; unfold inI at i1; omega) (by unfold far; unfold inI at i2; omega) h0 w
  obtain ⟨x1, x2, hx⟩ := W_shape n
  obtain ⟨y1, y2, hy⟩ := W_shape d
  rw [hx] at A R
  rw [hy] at B R
  clear hx hy
  have z2 : ¬ (d == 0) = true := by simp [h0]
  have hmf : ∀ (fn : Fn) (first cap : Array Value) (w : World), (Instr.makeFunc fn first cap).run Try.prog w = .ok (.func fn first cap) w := fun _ _ _ _ => rfl
  rcases redV_pair n d h0 with ⟨a, b, h1, h2⟩ | ⟨h1, h2⟩
  · rw [h1] at R
    rw [h2]
    clear h1 h2 i1 i2
    go_enter_defers Try.func70, Try.ntmps70
    go_wp2_with fail
    refine (A.out _).mono ?_
    rintro e w1 ⟨rfl, hb1⟩
    have T1 := Lib.hid ((M2.start w).step hb1)
    clear hb1 A
    go_wp2_with fail
    refine (B.out _).mono ?_
    rintro e w2 ⟨rfl, hb2⟩
    have T2 := Lib.hid (T1.out.step hb2)
    clear hb2 T1 B
    go_wp2_with fail
    refine (R.out _).mono ?_
    rintro e w3 ⟨rfl, hb3⟩
    have T3 := Lib.hid (T2.out.step hb3)
    clear hb3 T2 R
    obtain ⟨c0, c1⟩ := cells2 T3.out.g
    obtain ⟨f0, f1⟩ := frozen2 T3.out.g
    have k0 := cells1 T3.out.k
    obtain ⟨f2, _⟩ := frozen2 T3.out.k
    go_wp2
    refine leaves_cons (f := 87) (args := #[.pointer (some ⟨w.heap.size + 1, 0, none⟩)]) (by simp) (by simp [go_sem]) ?_
    refine (make_idle ⟨w.heap.size + 1, 0, none⟩ _).mono ?_
    rintro e u' w'' ⟨rfl, rfl, rfl⟩
    have T4 := (T3.out.val a b).err 0
    exact ⟨_, res_pair rfl _ _ w.heap.size (w.heap.size + 1) a b 0 rfl rfl T4.g T4.k, rfl, T4.1⟩
  · rw [h1] at R
    rw [h2]
    unfold over at R
    clear h1 h2 i1 i2
    go_enter_defers Try.func70, Try.ntmps70
    go_wp2_with fail
    refine (A.out _).mono ?_
    rintro e w1 ⟨rfl, hb1⟩
    have T1 := Lib.hid ((M2.start w).step hb1)
    clear hb1 A
    go_wp2_with fail
    refine (B.out _).mono ?_
    rintro e w2 ⟨rfl, hb2⟩
    have T2 := Lib.hid (T1.out.step hb2)
    clear hb2 T1 B
    go_wp2_with fail
    refine (R.out _).mono ?_
    rintro e w3 ⟨rfl, hb3⟩
    have T3 := Lib.hid (T2.out.step hb3)
    clear hb3 T2 R
    have k0 := cells1 T3.out.k
    obtain ⟨f2, _⟩ := frozen2 T3.out.k
    refine leaves_cons (f := 87) (args := #[.pointer (some ⟨w.heap.size + 1, 0, none⟩)]) (by simp) (by simp [go_sem]) ?_
    refine (make_catch ⟨w.heap.size + 1, 0, none⟩ 0 _ k0 f2).mono ?_
    rintro e u' w'' ⟨rfl, rfl, rfl⟩
    have T4 := T3.out.err 14
    exact ⟨_, res_pair rfl _ _ w.heap.size (w.heap.size + 1) 0 0 14 rfl rfl T4.g T4.k, rfl, T4.1⟩
end Go.Proofs.Ytffnopdpndpngaa.Pro
namespace Go.Proofs.Ytffnopdpndpngaa.Pro
open Go.RowKit

theorem div_one_of {d : Int} {g : Nat} (hd : d ≠ 0) (h : ((d.natAbs / g : Nat) : Int) = d) : 1 ≤ d ∧ g = 1 := by
  have h1 : 0 ≤ d := by rw [← h]; exact Int.natCast_nonneg _
  refine ⟨by omega, ?_⟩
  rcases Nat.lt_or_ge g 2 with h2 | h2
  · rcases Nat.eq_zero_or_pos g with h3 | h3
    · subst h3; simp at h; omega
    · omega
  · have := Nat.div_lt_self (show 0 < d.natAbs by omega) (show 1 < g by omega)
    generalize d.natAbs / g = q at *
    omega
theorem make_chk_yes {n d : Int} (h : Rat.chk n d) : Rat.makeOut n d = .tuple #[.agg #[.int .i64 n, .int .i64 d], .int .i64 0] := by
  obtain ⟨h1, h2, h3⟩ := h
  unfold Rat.makeOut
  rw [h3, Nat.div_one, Nat.div_one]
  have e1 : n.sign * d.sign * (n.natAbs : Int) = n := by
    rw [Rat.sign_pos' (show 0 < d by omega), Int.mul_one, Int.sign_mul_natAbs]
  have e2 : ((d.natAbs : Nat) : Int) = d := by omega
  rw [e1, e2]
  exact Rat.pairOut_yes (by omega) (by omega)
theorem make_chk_no {n d a b : Int} (hd : d ≠ 0) (h : ¬ Rat.chk n d) (he : Rat.makeOut n d = .tuple #[.agg #[.int .i64 a, .int .i64 b], .int .i64 0]) : ¬ (n = a ∧ d = b) := by
  rintro ⟨rfl, rfl⟩
  apply h
  unfold Rat.makeOut at he
  by_cases hf : (n.sign * d.sign * ((n.natAbs / Nat.gcd n.natAbs d.natAbs : Nat) : Int)).natAbs ≤ 1152921504606846976 ∧ ((d.natAbs / Nat.gcd n.natAbs d.natAbs : Nat) : Int).natAbs ≤ 1152921504606846976
  · rw [Rat.pairOut_yes hf.1 hf.2] at he
    simp only [Value.tuple.injEq, Array.mk.injEq, List.cons.injEq, Value.agg.injEq, Value.int.injEq, true_and, and_true] at he
    obtain ⟨e1, e2⟩ := he
    rw [e1, e2] at hf
    obtain ⟨h1, h2⟩ := div_one_of hd e2
    exact ⟨⟨h1, by omega⟩, ⟨by omega, by omega⟩, h2⟩
  · rw [Rat.pairOut_no hf] at he
    simp at he
theorem make_form (n d : Int) (hd : d ≠ 0) : ∃ a b x : Int, Rat.makeOut n d = .tuple #[.agg #[.int .i64 a, .int .i64 b], .int .i64 x] ∧ (x = 0 ∨ x = 14) := by
  rcases redV_pair n d hd with ⟨a, b, _, h⟩ | ⟨_, h⟩
  · exact ⟨a, b, 0, h, .inl rfl⟩
  · exact ⟨0, 0, 14, h, .inr rfl⟩

set_option maxHeartbeats 2000000 in
set_option maxRecDepth 100000 in
theorem check_same (n d : Int) (MK : Hid (∀ w : World, Calls Try.prog 70 #[.int .i64 n, .int .i64 d] w fun e w' => e = .returned (.tuple #[.agg #[.int .i64 n, .int .i64 d], .int .i64 0]) ∧ Below w.heap.size w w')) (w : World) :
    Calls Try.prog 48 #[.agg #[.int .i64 n, .int .i64 d]] w fun e w' => e = .returned (.int .i64 0) ∧ Below w.heap.size w w' := by
  go_enter Try.func48, Try.ntmps48
  go_wp2_with fail
  refine (MK.out _).mono ?_
  rintro e w1 ⟨rfl, hb1⟩
  have T1 := Lib.hid (((Has.start w).alloc #[.int .i64 n, .int .i64 d] 42).step hb1)
  clear hb1
  obtain ⟨c0, c1⟩ := cells2 (T1.out.row (List.mem_singleton.2 rfl))
  have hlt : w.heap.size < w1.heap.size := T1.out.lt (List.mem_singleton.2 rfl)
  go_wp2
  go_ret
  exact ⟨rfl, T1.out.1.alloc T1.out.1.size _⟩
set_option maxHeartbeats 2000000 in
set_option maxRecDepth 100000 in
theorem check_err (n d a b x : Int) (hx : ¬ x = 0) (MK : Hid (∀ w : World, Calls Try.prog 70 #[.int .i64 n, .int .i64 d] w fun e w' => e = .returned (.tuple #[.agg #[.int .i64 a, .int .i64 b], .int .i64 x]) ∧ Below w.heap.size w w')) (w : World) :
    Calls Try.prog 48 #[.agg #[.int .i64 n, .int .i64 d]] w fun e w' => e = .returned (.int .i64 1) ∧ Below w.heap.size w w' := by
  have hxb : (x != 0) = true := by simp [hx]
  go_enter Try.func48, Try.ntmps48
  go_wp2_with fail
  refine (MK.out _).mono ?_
  rintro e w1 ⟨rfl, hb1⟩
  have T1 := Lib.hid (((Has.start w).alloc #[.int .i64 n, .int .i64 d] 42).step hb1)
  clear hb1
  obtain ⟨c0, c1⟩ := cells2 (T1.out.row (List.mem_singleton.2 rfl))
  have hlt : w.heap.size < w1.heap.size := T1.out.lt (List.mem_singleton.2 rfl)
  go_wp2
  go_ret
  exact ⟨rfl, T1.out.1.alloc T1.out.1.size _⟩
set_option maxHeartbeats 2000000 in
set_option maxRecDepth 100000 in
theorem check_diff (n d a b : Int) (hn : ¬ (n = a ∧ d = b)) (MK : Hid (∀ w : World, Calls Try.prog 70 #[.int .i64 n, .int .i64 d] w fun e w' => e = .returned (.tuple #[.agg #[.int .i64 a, .int .i64 b], .int .i64 0]) ∧ Below w.heap.size w w')) (w : World) :
    Calls Try.prog 48 #[.agg #[.int .i64 n, .int .i64 d]] w fun e w' => e = .returned (.int .i64 1) ∧ Below w.heap.size w w' := by
  by_cases h1 : n = a
  · have h2 : ¬ d = b := fun h => hn ⟨h1, h⟩
    clear hn
    subst h1
    go_enter Try.func48, Try.ntmps48
    go_wp2_with fail
    refine (MK.out _).mono ?_
    rintro e w1 ⟨rfl, hb1⟩
    have T1 := Lib.hid (((Has.start w).alloc #[.int .i64 n, .int .i64 d] 42).step hb1)
    clear hb1
    obtain ⟨c0, c1⟩ := cells2 (T1.out.row (List.mem_singleton.2 rfl))
    have hlt : w.heap.size < w1.heap.size := T1.out.lt (List.mem_singleton.2 rfl)
    go_wp2
    go_ret
    exact ⟨rfl, T1.out.1.alloc T1.out.1.size _⟩
  · clear hn
    go_enter Try.func48, Try.ntmps48
    go_wp2_with fail
    refine (MK.out _).mono ?_
    rintro e w1 ⟨rfl, hb1⟩
    have T1 := Lib.hid (((Has.start w).alloc #[.int .i64 n, .int .i64 d] 42).step hb1)
    clear hb1
    obtain ⟨c0, c1⟩ := cells2 (T1.out.row (List.mem_singleton.2 rfl))
    have hlt : w.heap.size < w1.heap.size := T1.out.lt (List.mem_singleton.2 rfl)
    go_wp2
    go_ret
    exact ⟨rfl, T1.out.1.alloc T1.out.1.size _⟩
theorem check_yes (n d : Int) (h : Rat.chk n d) (w : World) :
    Calls Try.prog 48 #[.agg #[.int .i64 n, .int .i64 d]] w fun e w' => e = .returned (.int .i64 0) ∧ Below w.heap.size w w' := by
  have hm := fun w => make_any n d (by obtain ⟨h1, h2, h3⟩ := h; unfold inI; omega) (by obtain ⟨h1, h2, h3⟩ := h; unfold inI; omega) (by obtain ⟨h1, h2, h3⟩ := h; omega) w
  rw [make_chk_yes h] at hm
  exact check_same n d (Lib.hid hm) w
theorem check_no (n d : Int) (i1 : inI n) (i2 : inI d) (h : ¬ Rat.chk n d) (w : World) :
    Calls Try.prog 48 #[.agg #[.int .i64 n, .int .i64 d]] w fun e w' => e = .returned (.int .i64 1) ∧ Below w.heap.size w w' := by
  by_cases hd : d = 0
  · subst hd
    exact check_err n 0 0 0 26 (by decide) (Lib.hid fun w => make_zero n w) w
  · have hm := fun w => make_any n d i1 i2 hd w
    obtain ⟨a, b, x, he, hx⟩ := make_form n d hd
    rcases hx with rfl | rfl
    · have hne := make_chk_no hd h he
      rw [he] at hm
      exact check_diff n d a b hne (Lib.hid hm) w
    · rw [he] at hm
      exact check_err n d a b 14 (by decide) (Lib.hid hm) w
end Go.Proofs.Ytffnopdpndpngaa.Pro
namespace Go.Proofs.Ytffnopdpndpngaa.Pro
open Go.RowKit

/-- Two fractions in their blocks, the result's block and the error's. -/
structure Q4 (w : World) (n1 d1 n2 d2 : Int) (V : World) : Prop where
  has : ∃ (r1 r2 e1 : Value), Has w [(w.heap.size, #[.int .i64 n1, .int .i64 d1], 42), (w.heap.size + 1, #[.int .i64 n2, .int .i64 d2], 42), (w.heap.size + 1 + 1, #[r1, r2], 42), (w.heap.size + 1 + 1 + 1, #[e1], 22)] V
/-- The same, the last two told. -/
structure R4 (w : World) (n1 d1 n2 d2 r1 r2 e1 : Int) (V : World) : Prop where
  has : Has w [(w.heap.size, #[.int .i64 n1, .int .i64 d1], 42), (w.heap.size + 1, #[.int .i64 n2, .int .i64 d2], 42), (w.heap.size + 1 + 1, #[.int .i64 r1, .int .i64 r2], 42), (w.heap.size + 1 + 1 + 1, #[.int .i64 e1], 22)] V
theorem R4.start (w : World) (n1 d1 n2 d2 : Int) : R4 w n1 d1 n2 d2 0 0 0 ((((w.alloc (.cells #[.int .i64 n1, .int .i64 d1] 42)).alloc (.cells #[.int .i64 n2, .int .i64 d2] 42)).alloc (.cells #[.int .i64 0, .int .i64 0] 42)).alloc (.cells #[.int .i64 0] 22)) := by
  have h := ((((Has.start w).alloc #[.int .i64 n1, .int .i64 d1] 42).alloc #[.int .i64 n2, .int .i64 d2] 42).alloc #[.int .i64 0, .int .i64 0] 42).alloc #[.int .i64 0] 22
  simp only [World.size_alloc] at h
  exact ⟨h.sub (by simp)⟩
theorem R4.step {w V V2 : World} {n1 d1 n2 d2 r1 r2 e1 : Int} (hb : Below V.heap.size V V2) (h : R4 w n1 d1 n2 d2 r1 r2 e1 V) : R4 w n1 d1 n2 d2 r1 r2 e1 V2 := ⟨h.has.step hb⟩
theorem R4.drew {w V : World} {n1 d1 n2 d2 r1 r2 e1 : Int} (h : R4 w n1 d1 n2 d2 r1 r2 e1 V) : R4 w n1 d1 n2 d2 r1 r2 e1 V.drew := ⟨h.has.drew⟩
theorem R4.q {w V : World} {n1 d1 n2 d2 r1 r2 e1 : Int} (h : R4 w n1 d1 n2 d2 r1 r2 e1 V) : Q4 w n1 d1 n2 d2 V := ⟨_, _, _, h.has⟩
theorem R4.rowR {w V : World} {n1 d1 n2 d2 r1 r2 e1 : Int} (h : R4 w n1 d1 n2 d2 r1 r2 e1 V) : V.heap[w.heap.size + 1 + 1]? = some (.cells #[.int .i64 r1, .int .i64 r2] 42 (0, 0)) := h.has.row (by simp)
theorem R4.rowE {w V : World} {n1 d1 n2 d2 r1 r2 e1 : Int} (h : R4 w n1 d1 n2 d2 r1 r2 e1 V) : V.heap[w.heap.size + 1 + 1 + 1]? = some (.cells #[.int .i64 e1] 22 (0, 0)) := h.has.row (by simp)
theorem Has.setR4 {w V : World} {a b c : Array Value} {x y : Value} (u v : Value) (h : Has w [(w.heap.size, a, 42), (w.heap.size + 1, b, 42), (w.heap.size + 1 + 1, #[x, y], 42), (w.heap.size + 1 + 1 + 1, c, 22)] V) :
    Has w [(w.heap.size, a, 42), (w.heap.size + 1, b, 42), (w.heap.size + 1 + 1, #[u, v], 42), (w.heap.size + 1 + 1 + 1, c, 22)] ((V.setCell ⟨w.heap.size + 1 + 1, 0, none⟩ u).setCell ⟨w.heap.size + 1 + 1, 1, none⟩ v) := by
  have h1 : Has w [(w.heap.size + 1 + 1, #[x, y], 42), (w.heap.size, a, 42), (w.heap.size + 1, b, 42), (w.heap.size + 1 + 1 + 1, c, 22)] V := h.sub (by simp)
  have hne : ∀ x ∈ [(w.heap.size, a, (42 : TypeId)), (w.heap.size + 1, b, 42), (w.heap.size + 1 + 1 + 1, c, 22)], x.1 ≠ w.heap.size + 1 + 1 := by simp; omega
  exact ((h1.set hne 0 u).set hne 1 v).sub (by simp)
theorem Has.setE4 {w V : World} {a b c : Array Value} {x : Value} (u : Value) (h : Has w [(w.heap.size, a, 42), (w.heap.size + 1, b, 42), (w.heap.size + 1 + 1, c, 42), (w.heap.size + 1 + 1 + 1, #[x], 22)] V) :
    Has w [(w.heap.size, a, 42), (w.heap.size + 1, b, 42), (w.heap.size + 1 + 1, c, 42), (w.heap.size + 1 + 1 + 1, #[u], 22)] (V.setCell ⟨w.heap.size + 1 + 1 + 1, 0, none⟩ u) := by
  have h1 : Has w [(w.heap.size + 1 + 1 + 1, #[x], 22), (w.heap.size, a, 42), (w.heap.size + 1, b, 42), (w.heap.size + 1 + 1, c, 42)] V := h.sub (by simp)
  have hne : ∀ x ∈ [(w.heap.size, a, (42 : TypeId)), (w.heap.size + 1, b, 42), (w.heap.size + 1 + 1, c, 42)], x.1 ≠ w.heap.size + 1 + 1 + 1 := by simp; omega
  exact (h1.set hne 0 u).sub (by simp)
theorem R4.setR {w V : World} {n1 d1 n2 d2 r1 r2 e1 : Int} (u v : Int) (h : R4 w n1 d1 n2 d2 r1 r2 e1 V) : R4 w n1 d1 n2 d2 u v e1 ((V.setCell ⟨w.heap.size + 1 + 1, 0, none⟩ (.int .i64 u)).setCell ⟨w.heap.size + 1 + 1, 1, none⟩ (.int .i64 v)) := ⟨h.has.setR4 _ _⟩
theorem R4.setE {w V : World} {n1 d1 n2 d2 r1 r2 e1 : Int} (u : Int) (h : R4 w n1 d1 n2 d2 r1 r2 e1 V) : R4 w n1 d1 n2 d2 r1 r2 u (V.setCell ⟨w.heap.size + 1 + 1 + 1, 0, none⟩ (.int .i64 u)) := ⟨h.has.setE4 _⟩
theorem Q4.step {w V V2 : World} {n1 d1 n2 d2 : Int} (hb : Below V.heap.size V V2) (h : Q4 w n1 d1 n2 d2 V) : Q4 w n1 d1 n2 d2 V2 := by
  obtain ⟨r1, r2, e1, h⟩ := h
  exact ⟨r1, r2, e1, h.step hb⟩
theorem Q4.drew {w V : World} {n1 d1 n2 d2 : Int} (h : Q4 w n1 d1 n2 d2 V) : Q4 w n1 d1 n2 d2 V.drew := by
  obtain ⟨r1, r2, e1, h⟩ := h
  exact ⟨r1, r2, e1, h.drew⟩
theorem Q4.setR {w V : World} {n1 d1 n2 d2 : Int} {u v : Value} (h : Q4 w n1 d1 n2 d2 V) : Q4 w n1 d1 n2 d2 ((V.setCell ⟨w.heap.size + 1 + 1, 0, none⟩ u).setCell ⟨w.heap.size + 1 + 1, 1, none⟩ v) := by
  obtain ⟨r1, r2, e1, h⟩ := h
  exact ⟨u, v, e1, h.setR4 _ _⟩
theorem Q4.setE {w V : World} {n1 d1 n2 d2 : Int} {u : Value} (h : Q4 w n1 d1 n2 d2 V) : Q4 w n1 d1 n2 d2 (V.setCell ⟨w.heap.size + 1 + 1 + 1, 0, none⟩ u) := by
  obtain ⟨r1, r2, e1, h⟩ := h
  exact ⟨r1, r2, u, h.setE4 _⟩
structure Q4k (w : World) (n1 d1 n2 d2 : Int) (V : World) : Prop where
  out : Q4 w n1 d1 n2 d2 V
theorem Q4.all {w V : World} {n1 d1 n2 d2 : Int} (h : Q4 w n1 d1 n2 d2 V) :
    Q4 w n1 d1 n2 d2 V ∧ V.cell? ⟨w.heap.size, 0, none⟩ = some (.int .i64 n1) ∧ V.cell? ⟨w.heap.size, 1, none⟩ = some (.int .i64 d1) ∧ V.cell? ⟨w.heap.size + 1, 0, none⟩ = some (.int .i64 n2) ∧ V.cell? ⟨w.heap.size + 1, 1, none⟩ = some (.int .i64 d2) ∧ V.cell? ⟨w.heap.size + 1 + 1, 0, none⟩ = some (held V (w.heap.size + 1 + 1) 0) ∧ V.cell? ⟨w.heap.size + 1 + 1, 1, none⟩ = some (held V (w.heap.size + 1 + 1) 1) ∧ V.cell? ⟨w.heap.size + 1 + 1 + 1, 0, none⟩ = some (held V (w.heap.size + 1 + 1 + 1) 0) ∧ V.frozen? ⟨w.heap.size + 1 + 1, 0, none⟩ = false ∧ V.frozen? ⟨w.heap.size + 1 + 1, 1, none⟩ = false ∧ V.frozen? ⟨w.heap.size + 1 + 1 + 1, 0, none⟩ = false := by
  have h0 := h
  obtain ⟨r1, r2, e1, h⟩ := h
  have ha := cells2 (h.row (b := w.heap.size) (cs := #[.int .i64 n1, .int .i64 d1]) (t := 42) (by simp))
  have hb := cells2 (h.row (b := w.heap.size + 1) (cs := #[.int .i64 n2, .int .i64 d2]) (t := 42) (by simp))
  have rc := h.row (b := w.heap.size + 1 + 1) (cs := #[r1, r2]) (t := 42) (by simp)
  have rd := h.row (b := w.heap.size + 1 + 1 + 1) (cs := #[e1]) (t := 22) (by simp)
  have hc := cells2 rc
  have hd := cells1 rd
  refine ⟨h0, ha.1, ha.2, hb.1, hb.2, ?_, ?_, ?_, (frozen2 rc).1, (frozen2 rc).2, (frozen2 rd).1⟩
  · unfold held; rw [hc.1]; rfl
  · unfold held; rw [hc.2]; rfl
  · unfold held; rw [hd]; rfl
/-- A panic's post does not look at the slots that the region writes. -/
theorem leaves_results {P : Program} {fn : Func} {R : Ending → World → Prop} {t t' : Array Value} (h : results fn t = results fn t') : ∀ (ds : List Deferred) (u : FrameMode) (w : World), Leaves P fn t R ds u w → Leaves P fn t' R ds u w
  | [], u, w, hl => by
    cases u with
    | run => exact hl
    | returning => obtain ⟨v, h1, h2⟩ := hl; exact ⟨v, h ▸ h1, h2⟩
    | panicking c => exact hl
  | d :: ds, u, w, hl => by
    obtain ⟨h1, fv, cap, f, args, h2, h3, h4⟩ := hl
    refine ⟨h1, fv, cap, f, args, h2, h3, h4.mono ?_⟩
    intro e u' w' he
    cases e with
    | returned v => exact leaves_results h ds _ _ he
    | panicked c => exact leaves_results h ds _ _ he
    | outgrown => exact he
theorem panic_put {P : Program} {fn : Func} {R : Ending → World → Prop} {p q : Tmp} {tp tq : TypeId} (hr : fn.results = #[.cell p tp, .cell q tq]) (j : Tmp) (hp : j ≠ p) (hq : j ≠ q) {c : List PanicEntry} {a : Act} {v : Value} {w : World}
    (h : bodyPostD P fn R (.panic c) (a.put (some j) v) w) : bodyPostD P fn R (.panic c) a w := by
  refine leaves_results ?_ _ _ _ h
  simp only [results, hr, Act.put]
  simp [Array.getElem?_setIfInBounds_ne hp, Array.getElem?_setIfInBounds_ne hq]
end Go.Proofs.Ytffnopdpndpngaa.Pro
namespace Go.Proofs.Ytffnopdpndpngaa.Pro
open Go.RowKit

set_option maxHeartbeats 2000000 in
set_option maxRecDepth 100000 in
theorem mul_no_raw (n1 d1 n2 d2 : Int) (VA : Hid (∀ w : World, Calls Try.prog 72 #[.agg #[.int .i64 n1, .int .i64 d1], .agg #[.int .i64 n2, .int .i64 d2]] w fun e w' => e = .returned (.bool false) ∧ Below w.heap.size w w')) (w : World) :
    Calls Try.prog 49 #[.agg #[.int .i64 n1, .int .i64 d1], .agg #[.int .i64 n2, .int .i64 d2]] w fun e w' => e = .returned (.tuple #[.agg #[.int .i64 0, .int .i64 0], .int .i64 1]) ∧ Below w.heap.size w w' := by
  have hmf : ∀ (fn : Fn) (first cap : Array Value) (w : World), (Instr.makeFunc fn first cap).run Try.prog w = .ok (.func fn first cap) w := fun _ _ _ _ => rfl
  go_enter_defers Try.func49, Try.ntmps49
  go_wp2_with fail
  refine (VA.out _).mono ?_
  rintro e w1 ⟨rfl, hb1⟩
  have T1 := Lib.hid (R4.step hb1 (R4.start w n1 d1 n2 d2))
  clear hb1 VA
  obtain ⟨c0, c1⟩ := cells2 T1.out.rowR
  obtain ⟨f0, f1⟩ := frozen2 T1.out.rowR
  have k0 := cells1 T1.out.rowE
  obtain ⟨k1, _⟩ := frozen2 T1.out.rowE
  go_wp2
  refine leaves_cons (f := 71) (args := #[.pointer (some ⟨w.heap.size + 1 + 1 + 1, 0, none⟩)]) (by simp) (by simp [go_sem]) ?_
  refine (mul_idle ⟨w.heap.size + 1 + 1 + 1, 0, none⟩ _).mono ?_
  rintro e u' w'' ⟨rfl, rfl, rfl⟩
  have T9 := (T1.out.setR 0 0).setE 1
  exact ⟨_, res_pair rfl _ _ (w.heap.size + 1 + 1) (w.heap.size + 1 + 1 + 1) 0 0 1 rfl rfl T9.rowR T9.rowE, rfl, T9.has.1⟩
set_option maxHeartbeats 4000000 in
set_option maxRecDepth 100000 in
theorem mul_ok_raw (n1 d1 n2 d2 a1 a2 b1 b2 p q : Int) (VA : Hid (∀ w : World, Calls Try.prog 72 #[.agg #[.int .i64 n1, .int .i64 d1], .agg #[.int .i64 n2, .int .i64 d2]] w fun e w' => e = .returned (.bool true) ∧ Below w.heap.size w w'))
    (PA : Hid (∀ w : World, Calls Try.prog 74 #[.int .i64 n1, .int .i64 n2] w fun e w' => e = .returned (.agg #[.int .u64 a1, .int .u64 a2]) ∧ Below w.heap.size w w'))
    (PB : Hid (∀ w : World, Calls Try.prog 74 #[.int .i64 d1, .int .i64 d2] w fun e w' => e = .returned (.agg #[.int .u64 b1, .int .u64 b2]) ∧ Below w.heap.size w w'))
    (RE : Hid (∀ w : World, Calls Try.prog 73 #[.agg #[.int .u64 a1, .int .u64 a2], .agg #[.int .u64 b1, .int .u64 b2]] w fun e w' => e = .returned (.agg #[.int .i64 p, .int .i64 q]) ∧ Below w.heap.size w w')) (w : World) :
    Calls Try.prog 49 #[.agg #[.int .i64 n1, .int .i64 d1], .agg #[.int .i64 n2, .int .i64 d2]] w fun e w' => e = .returned (.tuple #[.agg #[.int .i64 p, .int .i64 q], .int .i64 0]) ∧ Below w.heap.size w w' := by
  have hmf : ∀ (fn : Fn) (first cap : Array Value) (w : World), (Instr.makeFunc fn first cap).run Try.prog w = .ok (.func fn first cap) w := fun _ _ _ _ => rfl
  go_enter_defers Try.func49, Try.ntmps49
  go_wp2_with fail
  refine (VA.out _).mono ?_
  rintro e w1 ⟨rfl, hb1⟩
  have T1 := Lib.hid (R4.step hb1 (R4.start w n1 d1 n2 d2))
  clear hb1 VA
  have hk0 := Q4k.mk T1.out.q
  have h0 := hk0.out.all
  go_upto_region 4 with fail
  go_region_held3 (fun V => Q4 w n1 d1 n2 d2 V ∧ V.cell? ⟨w.heap.size, 0, none⟩ = some (.int .i64 n1) ∧ V.cell? ⟨w.heap.size, 1, none⟩ = some (.int .i64 d1) ∧ V.cell? ⟨w.heap.size + 1, 0, none⟩ = some (.int .i64 n2) ∧ V.cell? ⟨w.heap.size + 1, 1, none⟩ = some (.int .i64 d2) ∧ V.cell? ⟨w.heap.size + 1 + 1, 0, none⟩ = some (held V (w.heap.size + 1 + 1) 0) ∧ V.cell? ⟨w.heap.size + 1 + 1, 1, none⟩ = some (held V (w.heap.size + 1 + 1) 1) ∧ V.cell? ⟨w.heap.size + 1 + 1 + 1, 0, none⟩ = some (held V (w.heap.size + 1 + 1 + 1) 0) ∧ V.frozen? ⟨w.heap.size + 1 + 1, 0, none⟩ = false ∧ V.frozen? ⟨w.heap.size + 1 + 1, 1, none⟩ = false ∧ V.frozen? ⟨w.heap.size + 1 + 1 + 1, 0, none⟩ = false)
    (((refine Q4.all ?_; (with_reducible repeat (first | exact Q4k.out (by assumption) | apply Q4.drew | apply Q4.setR | apply Q4.setE)))))
    (first | (go_at_call 74; (with_reducible first | (refine (PA.out _).mono ?_) | (refine (PB.out _).mono ?_)); rintro e w' ⟨rfl, hb⟩; (have hk := Q4k.mk (Q4.step hb (by (with_reducible repeat (first | exact Q4k.out (by assumption) | apply Q4.drew | apply Q4.setR | apply Q4.setE)))))) | (go_at_call 73; (with_reducible first | (refine (RE.out _).mono ?_)); rintro e w' ⟨rfl, hb⟩; (have hk := Q4k.mk (Q4.step hb (by (with_reducible repeat (first | exact Q4k.out (by assumption) | apply Q4.drew | apply Q4.setR | apply Q4.setE))))); (have HZ := Lib.hid (Q4k.out hk))))
  go_wp2
  obtain ⟨r1, r2, e1, hz⟩ := HZ.out
  have T9 := (hz.setR4 (.int .i64 p) (.int .i64 q)).setE4 (.int .i64 0)
  refine leaves_cons (f := 71) (args := #[.pointer (some ⟨w.heap.size + 1 + 1 + 1, 0, none⟩)]) (by simp) (by simp [go_sem]) ?_
  refine (mul_idle ⟨w.heap.size + 1 + 1 + 1, 0, none⟩ _).mono ?_
  rintro e u' w'' ⟨rfl, rfl, rfl⟩
  exact ⟨_, res_pair rfl _ _ (w.heap.size + 1 + 1) (w.heap.size + 1 + 1 + 1) p q 0 rfl rfl (T9.row (by simp)) (T9.row (by simp)), rfl, T9.1⟩
set_option maxHeartbeats 8000000 in
set_option maxRecDepth 100000 in
theorem mul_over_raw (n1 d1 n2 d2 a1 a2 b1 b2 : Int) (VA : Hid (∀ w : World, Calls Try.prog 72 #[.agg #[.int .i64 n1, .int .i64 d1], .agg #[.int .i64 n2, .int .i64 d2]] w fun e w' => e = .returned (.bool true) ∧ Below w.heap.size w w'))
    (PA : Hid (∀ w : World, Calls Try.prog 74 #[.int .i64 n1, .int .i64 n2] w fun e w' => e = .returned (.agg #[.int .u64 a1, .int .u64 a2]) ∧ Below w.heap.size w w'))
    (PB : Hid (∀ w : World, Calls Try.prog 74 #[.int .i64 d1, .int .i64 d2] w fun e w' => e = .returned (.agg #[.int .u64 b1, .int .u64 b2]) ∧ Below w.heap.size w w'))
    (RE : Hid (∀ w : World, Calls Try.prog 73 #[.agg #[.int .u64 a1, .int .u64 a2], .agg #[.int .u64 b1, .int .u64 b2]] w fun e w' => e = over ∧ Below w.heap.size w w')) (w : World) :
    Calls Try.prog 49 #[.agg #[.int .i64 n1, .int .i64 d1], .agg #[.int .i64 n2, .int .i64 d2]] w fun e w' => e = .returned (.tuple #[.agg #[.int .i64 0, .int .i64 0], .int .i64 14]) ∧ Below w.heap.size w w' := by
  unfold over at RE
  have hmf : ∀ (fn : Fn) (first cap : Array Value) (w : World), (Instr.makeFunc fn first cap).run Try.prog w = .ok (.func fn first cap) w := fun _ _ _ _ => rfl
  go_enter_defers Try.func49, Try.ntmps49
  go_wp2_with fail
  refine (VA.out _).mono ?_
  rintro e w1 ⟨rfl, hb1⟩
  have T1 := Lib.hid (R4.step hb1 (R4.start w n1 d1 n2 d2))
  clear hb1 VA
  have ht := T1.out
  have h0 := T1.out.q.all
  obtain ⟨_, u1, u2, u3, u4, _⟩ := h0
  go_upto_region 4 with fail
  refine wp_region_held_drew (S := (fun V => R4 w n1 d1 n2 d2 0 0 0 V ∧ V.cell? ⟨w.heap.size, 0, none⟩ = some (.int .i64 n1) ∧ V.cell? ⟨w.heap.size, 1, none⟩ = some (.int .i64 d1) ∧ V.cell? ⟨w.heap.size + 1, 0, none⟩ = some (.int .i64 n2) ∧ V.cell? ⟨w.heap.size + 1, 1, none⟩ = some (.int .i64 d2))) (by kernel_rfl) ⟨ht.drew, u1, u2, u3, u4⟩ (fun hHeld => ?_)
  refine wpAnyH_take (i := 0) (v := _) rfl (by kernel_rfl) (by kernel_rfl) (by kernel_rfl) (fun _ _ _ h => panic_put (p := 4) (q := 5) rfl 12 (by decide) (by decide) h) (Or.inl ⟨by rfl, by intro w hSw; (try dsimp only at hSw); go_simp; try (with_reducible rfl)⟩) (by assumption) ?_
  try simp only [Act.put, List.setIfInBounds_toArray, List.set_cons_zero, List.set_cons_succ]
  refine wpAnyH_take (i := 1) (v := _) rfl (by kernel_rfl) (by kernel_rfl) (by kernel_rfl) (fun _ _ _ h => panic_put (p := 4) (q := 5) rfl 13 (by decide) (by decide) h) (Or.inl ⟨by rfl, by intro w hSw; (try dsimp only at hSw); go_simp; try (with_reducible rfl)⟩) (by assumption) ?_
  try simp only [Act.put, List.setIfInBounds_toArray, List.set_cons_zero, List.set_cons_succ]
  refine wpAnyH_take (i := 2) (v := _) rfl (by kernel_rfl) (by kernel_rfl) (by kernel_rfl) (fun _ _ _ h => panic_put (p := 4) (q := 5) rfl 14 (by decide) (by decide) h) (Or.inl ⟨by rfl, by intro w hSw; (try dsimp only at hSw); go_simp; try (with_reducible rfl)⟩) (by assumption) ?_
  try simp only [Act.put, List.setIfInBounds_toArray, List.set_cons_zero, List.set_cons_succ]
  refine wpAnyH_take (i := 3) (v := _) rfl (by kernel_rfl) (by kernel_rfl) (by kernel_rfl) (fun _ _ _ h => panic_put (p := 4) (q := 5) rfl 15 (by decide) (by decide) h) (Or.inl ⟨by rfl, by intro w hSw; (try dsimp only at hSw); go_simp; try (with_reducible rfl)⟩) (by assumption) ?_
  try simp only [Act.put, List.setIfInBounds_toArray, List.set_cons_zero, List.set_cons_succ]
  refine wpAnyH_take (i := 5) (v := _) rfl (by kernel_rfl) (by kernel_rfl) (by kernel_rfl) (fun _ _ _ h => panic_put (p := 4) (q := 5) rfl 17 (by decide) (by decide) h) (Or.inl ⟨by rfl, by intro w hSw; (try dsimp only at hSw); go_simp; try (with_reducible rfl)⟩) (by assumption) ?_
  try simp only [Act.put, List.setIfInBounds_toArray, List.set_cons_zero, List.set_cons_succ]
  refine wpAnyH_take (i := 6) (v := _) rfl (by kernel_rfl) (by kernel_rfl) (by kernel_rfl) (fun _ _ _ h => panic_put (p := 4) (q := 5) rfl 18 (by decide) (by decide) h) (Or.inl ⟨by rfl, by intro w hSw; (try dsimp only at hSw); go_simp; try (with_reducible rfl)⟩) (by assumption) ?_
  try simp only [Act.put, List.setIfInBounds_toArray, List.set_cons_zero, List.set_cons_succ]
  refine wpAnyH_take (i := 7) (v := _) rfl (by kernel_rfl) (by kernel_rfl) (by kernel_rfl) (fun _ _ _ h => panic_put (p := 4) (q := 5) rfl 19 (by decide) (by decide) h) (Or.inl ⟨by rfl, by intro w hSw; (try dsimp only at hSw); go_simp; try (with_reducible rfl)⟩) (by assumption) ?_
  try simp only [Act.put, List.setIfInBounds_toArray, List.set_cons_zero, List.set_cons_succ]
  refine wpAnyH_take (i := 8) (v := _) rfl (by kernel_rfl) (by kernel_rfl) (by kernel_rfl) (fun _ _ _ h => panic_put (p := 4) (q := 5) rfl 20 (by decide) (by decide) h) (Or.inl ⟨by rfl, by intro w hSw; (try dsimp only at hSw); go_simp; try (with_reducible rfl)⟩) (by assumption) ?_
  try simp only [Act.put, List.setIfInBounds_toArray, List.set_cons_zero, List.set_cons_succ]
  refine wpAnyH_ready (rs := [4]) (by kernel_rfl) (by simp) ?_
  refine AllReadyH.cons rfl (fun K hK => ?_) AllReadyH.nil
  go_simp
  go_wp2_with (go_at_call 74; (with_reducible first | (refine (PA.out _).mono ?_)); rintro e w14 ⟨rfl, hb⟩; (have hk := R4.step hb (by (with_reducible repeat (first | exact hHeld.1 | apply R4.drew)))))
  refine hK.out _ _ ⟨hk, hk.q.all.2.1, hk.q.all.2.2.1, hk.q.all.2.2.2.1, hk.q.all.2.2.2.2.1⟩ (fun hHeld => ?_)
  clear hK K
  try simp only [Act.put, List.setIfInBounds_toArray, List.set_cons_zero, List.set_cons_succ]
  refine wpAnyH_ready (rs := [9]) (by kernel_rfl) (by simp) ?_
  refine AllReadyH.cons rfl (fun K hK => ?_) AllReadyH.nil
  go_simp
  go_wp2_with (go_at_call 74; (with_reducible first | (refine (PB.out _).mono ?_)); rintro e w19 ⟨rfl, hb⟩; (have hk := R4.step hb (by (with_reducible repeat (first | exact hHeld.1 | apply R4.drew)))))
  refine hK.out _ _ ⟨hk, hk.q.all.2.1, hk.q.all.2.2.1, hk.q.all.2.2.2.1, hk.q.all.2.2.2.2.1⟩ (fun hHeld => ?_)
  clear hK K
  try simp only [Act.put, List.setIfInBounds_toArray, List.set_cons_zero, List.set_cons_succ]
  refine wpAnyH_ready (rs := [10]) (by kernel_rfl) (by simp) ?_
  refine AllReadyH.cons rfl (fun K hK => ?_) AllReadyH.nil
  go_simp
  go_wp2_with (go_at_call 73; (with_reducible first | (refine (RE.out _).mono ?_)); rintro e w' ⟨rfl, hb⟩; (have hk := R4.step hb (by (with_reducible repeat (first | exact hHeld.1 | apply R4.drew)))))
  have k0 := cells1 hk.rowE
  obtain ⟨k1, _⟩ := frozen2 hk.rowE
  refine leaves_cons (f := 71) (args := #[.pointer (some ⟨w.heap.size + 1 + 1 + 1, 0, none⟩)]) (by simp) (by simp [go_sem]) ?_
  refine (mul_catch ⟨w.heap.size + 1 + 1 + 1, 0, none⟩ 0 _ k0 k1).mono ?_
  rintro e u' w'' ⟨rfl, rfl, rfl⟩
  have T9 := hk.setE 14
  exact ⟨_, res_pair rfl _ _ (w.heap.size + 1 + 1) (w.heap.size + 1 + 1 + 1) 0 0 14 rfl rfl T9.rowR T9.rowE, rfl, T9.has.1⟩
end Go.Proofs.Ytffnopdpndpngaa.Pro
namespace Go.Proofs.Ytffnopdpndpngaa.Pro
open Go.RowKit

end Go.Proofs.Ytffnopdpndpngaa.Pro
