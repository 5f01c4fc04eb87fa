/- The program's numbers of two words: less, magnitude, product, narrow. -/
import Derived.Test.YtbiegbnncnjnmaaPA
set_option linter.unusedVariables false
set_option linter.unusedSimpArgs false
namespace Go.Proofs.Ytbiegbnncnjnmaa.Pro
open Go.RowKit

/-- What fits in 127 bits and a sign. -/
def near (z : Int) : Prop := -170141183460469231731687303715884105728 ≤ z ∧ z < 170141183460469231731687303715884105728
theorem W_shape (z : Int) : ∃ x y : Int, W z = .agg #[.int .u64 x, .int .u64 y] := ⟨_, _, rfl⟩
theorem top2' (w : World) (A B : Obj) : ((w.alloc A).alloc B).heap[w.heap.size]? = some A := heap_alloc2_old w A B
theorem low2 (w : World) (A B : Obj) : Below w.heap.size w ((w.alloc A).alloc B) := ((Below.refl w.heap.size w).alloc (Nat.le_refl _) A).alloc (by simp) B
set_option maxHeartbeats 1000000 in
set_option maxRecDepth 100000 in
theorem less_any (x y : Int) (h : near (x - y)) (w : World) :
    Calls Try.prog 64 #[W x, W y] w fun e w' => e = .returned (.bool (decide (x < y))) ∧ Below w.heap.size w w' := by
  have A := Lib.hid fun w => minus_any x y w
  have B := Lib.hid fun w => negative_any (x - y) h.1 h.2 w
  have e : decide (x - y < 0) = decide (x < y) := by
    by_cases hz : x < y
    · rw [decide_eq_true hz, decide_eq_true (by omega)]
    · rw [decide_eq_false hz, decide_eq_false (by omega)]
  rw [e] at B
  obtain ⟨x1, x2, hx⟩ := W_shape x
  obtain ⟨y1, y2, hy⟩ := W_shape y
  obtain ⟨z1, z2, hz⟩ := W_shape (x - y)
  rw [hx, hy, hz] at A
  rw [hz] at B
  rw [hx, hy]
  generalize decide (x < y) = b at *
  clear hx hy hz e h
  go_enter Try.func64, Try.ntmps64
  go_wp2_with fail
  refine (A.out _).mono ?_
  rintro e w1 ⟨rfl, hb1⟩
  have H1 : Hid (Below w.heap.size w w1) := (low2 w _ _).trans (hb1.mono (by simp; omega))
  clear hb1
  go_wp2_with fail
  refine (B.out _).mono ?_
  rintro e w2 ⟨rfl, hb2⟩
  have H2 : Hid (Below w.heap.size w w2) := H1.out.trans (hb2.mono H1.out.size)
  clear hb2 H1
  go_wp2
  go_ret
  exact ⟨rfl, H2.out⟩
set_option maxHeartbeats 1000000 in
set_option maxRecDepth 100000 in
theorem product_any (x y : Int) (h1 : inI x) (h2 : inI y) (w : World) :
    Calls Try.prog 63 #[.int .i64 x, .int .i64 y] w fun e w' => e = .returned (W (x * y)) ∧ Below w.heap.size w w' := by
  have A := Lib.hid fun w => widen_any x h1 w
  have B := Lib.hid fun w => widen_any y h2 w
  have C := Lib.hid fun w => times_any x y w
  obtain ⟨x1, x2, hx⟩ := W_shape x
  obtain ⟨y1, y2, hy⟩ := W_shape y
  obtain ⟨z1, z2, hz⟩ := W_shape (x * y)
  rw [hx] at A C
  rw [hy] at B C
  rw [hz] at C ⊢
  clear hx hy hz h1 h2
  go_enter Try.func63, Try.ntmps63
  go_wp2_with fail
  refine (A.out _).mono ?_
  rintro e w1 ⟨rfl, hb1⟩
  have T1 := Lib.hid (((Has.start w).alloc #[.int .u64 0, .int .u64 0] 65).step hb1)
  clear hb1
  go_wp2_with fail
  refine (B.out _).mono ?_
  rintro e w2 ⟨rfl, hb2⟩
  have T2 := Lib.hid (T1.out.step hb2)
  clear hb2 T1
  go_wp2_with fail
  refine (C.out _).mono ?_
  rintro e w3 ⟨rfl, hb3⟩
  have T3 := Lib.hid (T2.out.step hb3)
  clear hb3 T2
  obtain ⟨c0, c1⟩ := cells2 (T3.out.row (List.mem_singleton.2 rfl))
  obtain ⟨f0, f1⟩ := frozen2 (T3.out.row (List.mem_singleton.2 rfl))
  go_wp2
  have T4 := (T3.out.set (fun _ h => by cases h) 0 (.int .u64 z1)).set (fun _ h => by cases h) 1 (.int .u64 z2)
  refine bodyPost_ret (results_cell_row rfl _ _ w.heap.size 65 _ (0, 0) _ rfl (T4.row (List.mem_singleton.2 rfl)) Try.underlying65 rfl info46) rfl ?_
  exact ⟨rfl, T4.1⟩
set_option maxHeartbeats 1000000 in
set_option maxRecDepth 100000 in
theorem magnitude_any (x : Int) (h : near x) (h' : near (-x)) (w : World) :
    Calls Try.prog 96 #[W x] w fun e w' => e = .returned (W (x.natAbs : Nat)) ∧ Below w.heap.size w w' := by
  have A := Lib.hid fun w => negative_any x h.1 h.2 w
  have B := Lib.hid fun w => minus_any 0 x w
  obtain ⟨x1, x2, hx⟩ := W_shape x
  have h0 : W 0 = .agg #[.int .u64 0, .int .u64 0] := W_small 0 (by decide) (by decide)
  rw [hx] at A B
  rw [h0] at B
  by_cases hz : x < 0
  · have e : (0 : Int) - x = (x.natAbs : Nat) := by omega
    rw [e] at B
    rw [decide_eq_true hz] at A
    obtain ⟨z1, z2, hz'⟩ := W_shape (x.natAbs : Nat)
    rw [hz'] at B ⊢
    rw [hx]
    clear hx hz' h h' e h0
    go_enter Try.func96, Try.ntmps96
    go_wp2_with fail
    refine (A.out _).mono ?_
    rintro e w1 ⟨rfl, hb1⟩
    have T1 := Lib.hid ((((Has.start w).alloc #[.int .u64 x1, .int .u64 x2] 65).alloc #[.int .u64 0, .int .u64 0] 65).step hb1)
    clear hb1
    rw [World.size_alloc] at T1
    obtain ⟨a0, a1⟩ := cells2 (T1.out.row (List.mem_cons_of_mem _ List.mem_cons_self))
    go_wp2_with fail
    refine (B.out _).mono ?_
    rintro e w2 ⟨rfl, hb2⟩
    have T2 := Lib.hid (T1.out.step hb2)
    clear hb2 T1 a0 a1
    obtain ⟨c0, c1⟩ := cells2 (T2.out.row List.mem_cons_self)
    obtain ⟨f0, f1⟩ := frozen2 (T2.out.row List.mem_cons_self)
    go_wp2
    have hne : ∀ x ∈ [(w.heap.size, #[Value.int .u64 x1, .int .u64 x2], (65 : TypeId))], x.1 ≠ w.heap.size + 1 := fun x hx => by rw [List.mem_singleton.1 hx]; simp
    have T4 := (T2.out.set hne 0 (.int .u64 z1)).set hne 1 (.int .u64 z2)
    refine bodyPost_ret (results_cell_row rfl _ _ (w.heap.size + 1) 65 _ (0, 0) _ rfl (T4.row List.mem_cons_self) Try.underlying65 rfl info46) rfl ?_
    exact ⟨rfl, T4.1⟩
  · have e : ((x.natAbs : Nat) : Int) = x := by omega
    rw [e, hx]
    rw [decide_eq_false hz] at A
    clear hx h h' e B h0
    go_enter Try.func96, Try.ntmps96
    go_wp2_with fail
    refine (A.out _).mono ?_
    rintro e w1 ⟨rfl, hb1⟩
    have T1 := Lib.hid ((((Has.start w).alloc #[.int .u64 x1, .int .u64 x2] 65).alloc #[.int .u64 0, .int .u64 0] 65).step hb1)
    clear hb1
    rw [World.size_alloc] at T1
    obtain ⟨a0, a1⟩ := cells2 (T1.out.row (List.mem_cons_of_mem _ List.mem_cons_self))
    obtain ⟨c0, c1⟩ := cells2 (T1.out.row List.mem_cons_self)
    obtain ⟨f0, f1⟩ := frozen2 (T1.out.row List.mem_cons_self)
    go_wp2
    have hne : ∀ x ∈ [(w.heap.size, #[Value.int .u64 x1, .int .u64 x2], (65 : TypeId))], x.1 ≠ w.heap.size + 1 := fun x hx => by rw [List.mem_singleton.1 hx]; simp
    have T4 := (T1.out.set hne 0 (.int .u64 x1)).set hne 1 (.int .u64 x2)
    refine bodyPost_ret (results_cell_row rfl _ _ (w.heap.size + 1) 65 _ (0, 0) _ rfl (T4.row List.mem_cons_self) Try.underlying65 rfl info46) rfl ?_
    exact ⟨rfl, T4.1⟩
theorem narrow_yes (a : Nat) (h : a ≤ 1152921504606846976) (w : World) :
    Calls Try.prog 99 #[W a] w fun e w' => e = .returned (.int .i64 a) ∧ Below w.heap.size w w' := by
  rw [W_small a (by omega) (by omega)]
  have g : ¬ (1152921504606846976 < (a : Int)) := by omega
  have g2 : wrap64 (a : Int) = a := by unfold wrap64; omega
  go_enter Try.func99, Try.ntmps99
  go_wp2
  go_ret
  exact ⟨by first | rfl | rw [g2], (Below.refl _ _).alloc (Nat.le_refl _) _⟩
/-- What narrow panics with. -/
def over : Ending := .panicked [{ v := .iface 26 (.int .i64 14), recovered := false }]
theorem narrow_no (a : Nat) (h : ¬ a ≤ 1152921504606846976) (h2 : near a) (w : World) :
    Calls Try.prog 99 #[W a] w fun e w' => e = over ∧ Below w.heap.size w w' := by
  by_cases hs : (a : Int) < 18446744073709551616
  · rw [W_small a (by omega) hs]
    have g : (1152921504606846976 < (a : Int)) := by omega
    go_enter Try.func99, Try.ntmps99
    go_wp2
    exact ⟨rfl, rfl, (Below.refl _ _).alloc (Nat.le_refl _) _⟩
  · have h3 := (hi_small a (by omega) h2.2)
    have h4 : ¬ hiW a = 0 := fun h => hs (h3.1 h)
    unfold W
    generalize hiW a = x at *
    generalize loW a = y at *
    have g : (x == 0) = false := by simp [h4]
    go_enter Try.func99, Try.ntmps99
    go_wp2
    exact ⟨rfl, rfl, (Below.refl _ _).alloc (Nat.le_refl _) _⟩
end Go.Proofs.Ytbiegbnncnjnmaa.Pro
