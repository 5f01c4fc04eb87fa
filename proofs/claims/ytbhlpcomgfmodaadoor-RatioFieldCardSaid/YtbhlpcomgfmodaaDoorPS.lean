/- The program's Div, Floor. -/
import Derived.Test.YtbhlpcomgfmodaaDoorPR
set_option linter.unusedVariables false
set_option linter.unusedSimpArgs false
namespace Go.Proofs.YtbhlpcomgfmodaaDoor.Pro
open Go.RowKit

/-- Two fractions in their blocks, and the result's block. -/
structure F3 (w : World) (n1 d1 n2 d2 : Int) (V : World) : Prop where
  has : Has w [(w.heap.size, #[.int .i64 n1, .int .i64 d1], 23), (w.heap.size + 1, #[.int .i64 n2, .int .i64 d2], 23), (w.heap.size + 1 + 1, #[.int .i64 0, .int .i64 0], 23)] V
theorem F3.start (w : World) (n1 d1 n2 d2 : Int) : F3 w n1 d1 n2 d2 (((w.alloc (.cells #[.int .i64 n1, .int .i64 d1] 23)).alloc (.cells #[.int .i64 n2, .int .i64 d2] 23)).alloc (.cells #[.int .i64 0, .int .i64 0] 23)) := by
  have h := (((Has.start w).alloc #[.int .i64 n1, .int .i64 d1] 23).alloc #[.int .i64 n2, .int .i64 d2] 23).alloc #[.int .i64 0, .int .i64 0] 23
  simp only [World.size_alloc] at h
  exact ⟨h.sub (by simp)⟩
theorem F3.step {w V V2 : World} {n1 d1 n2 d2 : Int} (hb : Below V.heap.size V V2) (h : F3 w n1 d1 n2 d2 V) : F3 w n1 d1 n2 d2 V2 := ⟨h.has.step hb⟩
theorem F3.rowR {w V : World} {n1 d1 n2 d2 : Int} (h : F3 w n1 d1 n2 d2 V) : V.heap[w.heap.size + 1 + 1]? = some (.cells #[.int .i64 0, .int .i64 0] 23 (0, 0)) := h.has.row (by simp)
theorem F3.rowX {w V : World} {n1 d1 n2 d2 : Int} (h : F3 w n1 d1 n2 d2 V) : V.heap[w.heap.size]? = some (.cells #[.int .i64 n1, .int .i64 d1] 23 (0, 0)) := h.has.row (by simp)
theorem F3.rowY {w V : World} {n1 d1 n2 d2 : Int} (h : F3 w n1 d1 n2 d2 V) : V.heap[w.heap.size + 1]? = some (.cells #[.int .i64 n2, .int .i64 d2] 23 (0, 0)) := h.has.row (by simp)
theorem F3.lt {w V : World} {n1 d1 n2 d2 : Int} (h : F3 w n1 d1 n2 d2 V) : w.heap.size + 1 + 1 < V.heap.size := (Array.getElem?_eq_some_iff.1 h.rowR).1
theorem res_div {V : World} {g : Nat} {a b : Int} {tmps : Array Value} {x : Value} (hp : tmps.getD 4 undef = .pointer (some ⟨g, 0, none⟩)) (hx : tmps.getD 5 undef = x) (hg : V.heap[g]? = some (.cells #[.int .i64 a, .int .i64 b] 23 (0, 0))) :
    (results Tryd.f26 tmps).run Tryd.prog V = .ok (.tuple #[.agg #[.int .i64 a, .int .i64 b], x]) V := by
  have h := res_cell_tmp (P := Tryd.prog) (fn := Tryd.f26) (p := 4) (u := 5) (ty := 23) rfl tmps V g 23 _ (0, 0) _ hp hg Tryd.underlying23 rfl info23
  rw [hx] at h
  exact h
set_option maxHeartbeats 1000000 in
set_option maxRecDepth 100000 in
theorem div_no (n1 d1 n2 d2 : Int) (VA : Hid (∀ w : World, Calls Tryd.prog 43 #[.agg #[.int .i64 n1, .int .i64 d1], .agg #[.int .i64 n2, .int .i64 d2]] w fun e w' => e = .returned (.bool false) ∧ Below w.heap.size w w')) (w : World) :
    Calls Tryd.prog 26 #[.agg #[.int .i64 n1, .int .i64 d1], .agg #[.int .i64 n2, .int .i64 d2]] w fun e w' => e = .returned (.tuple #[.agg #[.int .i64 0, .int .i64 0], .int .i64 1]) ∧ Below w.heap.size w w' := by
  go_enter Tryd.func26, Tryd.ntmps26
  go_wp2_with fail
  with_reducible refine (VA.out _).mono ?_
  rintro e w1 ⟨rfl, hb1⟩
  have T1 := Lib.hid (F3.step hb1 (F3.start w n1 d1 n2 d2))
  clear hb1 VA
  obtain ⟨c0, c1⟩ := cells2 T1.out.rowR
  obtain ⟨f0, f1⟩ := frozen2 T1.out.rowR
  go_wp2
  have hC := heap_setCell_same _ _ 1 _ _ (.int .i64 0) (heap_setCell_same _ _ 0 _ _ (.int .i64 0) T1.out.rowR)
  refine bodyPost_ret (res_div rfl rfl hC) rfl ?_
  exact ⟨rfl, (T1.out.has.1.setCell (by simp; omega) _).setCell (by simp; omega) _⟩
set_option maxHeartbeats 1000000 in
set_option maxRecDepth 100000 in
theorem div_err (n1 d1 n2 d2 a b x : Int) (hx : ¬ x = 0) (VA : Hid (∀ w : World, Calls Tryd.prog 43 #[.agg #[.int .i64 n1, .int .i64 d1], .agg #[.int .i64 n2, .int .i64 d2]] w fun e w' => e = .returned (.bool true) ∧ Below w.heap.size w w')) (MK : Hid (∀ w : World, Calls Tryd.prog 11 #[.int .i64 d2, .int .i64 n2] w fun e w' => e = .returned (.tuple #[.agg #[.int .i64 a, .int .i64 b], .int .i64 x]) ∧ Below w.heap.size w w')) (w : World) :
    Calls Tryd.prog 26 #[.agg #[.int .i64 n1, .int .i64 d1], .agg #[.int .i64 n2, .int .i64 d2]] w fun e w' => e = .returned (.tuple #[.agg #[.int .i64 0, .int .i64 0], .int .i64 x]) ∧ Below w.heap.size w w' := by
  have hxb : (x != 0) = true := by simp [hx]
  go_enter Tryd.func26, Tryd.ntmps26
  go_wp2_with fail
  with_reducible refine (VA.out _).mono ?_
  rintro e w1 ⟨rfl, hb1⟩
  have T1 := Lib.hid (F3.step hb1 (F3.start w n1 d1 n2 d2))
  clear hb1 VA
  obtain ⟨c0, c1⟩ := cells2 T1.out.rowY
  go_wp2_with fail
  with_reducible refine (MK.out _).mono ?_
  rintro e w2 ⟨rfl, hb2⟩
  have T2 := Lib.hid (F3.step hb2 T1.out)
  clear hb2 MK T1 c0 c1
  have T3 := Lib.hid (F3.step ((Below.refl w2.heap.size w2).alloc (Nat.le_refl _) (.cells #[.int .i64 a, .int .i64 b] 23)) T2.out)
  go_upto_region 4 with fail
  generalize w2.alloc (.cells #[.int .i64 a, .int .i64 b] 23) = w3 at *
  clear T2
  obtain ⟨c0, c1⟩ := cells2 T3.out.rowR
  obtain ⟨f0, f1⟩ := frozen2 T3.out.rowR
  go_wp2
  have hC := heap_setCell_same _ _ 1 _ _ (.int .i64 0) (heap_setCell_same _ _ 0 _ _ (.int .i64 0) T3.out.rowR)
  refine bodyPost_ret (res_div rfl rfl hC) rfl ?_
  exact ⟨rfl, (T3.out.has.1.setCell (by simp; omega) _).setCell (by simp; omega) _⟩
set_option maxHeartbeats 1000000 in
set_option maxRecDepth 100000 in
theorem div_ok (n1 d1 n2 d2 a b p q y : Int) (VA : Hid (∀ w : World, Calls Tryd.prog 43 #[.agg #[.int .i64 n1, .int .i64 d1], .agg #[.int .i64 n2, .int .i64 d2]] w fun e w' => e = .returned (.bool true) ∧ Below w.heap.size w w')) (MK : Hid (∀ w : World, Calls Tryd.prog 11 #[.int .i64 d2, .int .i64 n2] w fun e w' => e = .returned (.tuple #[.agg #[.int .i64 a, .int .i64 b], .int .i64 0]) ∧ Below w.heap.size w w'))
    (MU : Hid (∀ w : World, Calls Tryd.prog 24 #[.agg #[.int .i64 n1, .int .i64 d1], .agg #[.int .i64 a, .int .i64 b]] w fun e w' => e = .returned (.tuple #[.agg #[.int .i64 p, .int .i64 q], .int .i64 y]) ∧ Below w.heap.size w w')) (w : World) :
    Calls Tryd.prog 26 #[.agg #[.int .i64 n1, .int .i64 d1], .agg #[.int .i64 n2, .int .i64 d2]] w fun e w' => e = .returned (.tuple #[.agg #[.int .i64 p, .int .i64 q], .int .i64 y]) ∧ Below w.heap.size w w' := by
  go_enter Tryd.func26, Tryd.ntmps26
  go_wp2_with fail
  with_reducible refine (VA.out _).mono ?_
  rintro e w1 ⟨rfl, hb1⟩
  have T1 := Lib.hid (F3.step hb1 (F3.start w n1 d1 n2 d2))
  clear hb1 VA
  obtain ⟨c0, c1⟩ := cells2 T1.out.rowY
  go_wp2_with fail
  with_reducible refine (MK.out _).mono ?_
  rintro e w2 ⟨rfl, hb2⟩
  have T2 := Lib.hid (F3.step hb2 T1.out)
  clear hb2 MK T1 c0 c1
  have T3 := Lib.hid (F3.step ((Below.refl w2.heap.size w2).alloc (Nat.le_refl _) (.cells #[.int .i64 a, .int .i64 b] 23)) T2.out)
  have hz := heap_alloc_new w2 (.cells #[.int .i64 a, .int .i64 b] 23)
  go_upto_region 4 with fail
  generalize w2.alloc (.cells #[.int .i64 a, .int .i64 b] 23) = w3 at *
  generalize w2.heap.size = g at *
  clear T2
  obtain ⟨z0, z1⟩ := cells2 hz
  obtain ⟨c0, c1⟩ := cells2 T3.out.rowX
  clear hz
  go_wp2_with fail
  with_reducible refine (MU.out _).mono ?_
  rintro e w4 ⟨rfl, hb4⟩
  have T4 := Lib.hid (F3.step hb4 T3.out)
  clear hb4 MU T3 c0 c1 z0 z1
  obtain ⟨c0, c1⟩ := cells2 T4.out.rowR
  obtain ⟨f0, f1⟩ := frozen2 T4.out.rowR
  go_wp2
  have hC := heap_setCell_same _ _ 1 _ _ (.int .i64 q) (heap_setCell_same _ _ 0 _ _ (.int .i64 p) T4.out.rowR)
  refine bodyPost_ret (res_div rfl rfl hC) rfl ?_
  exact ⟨rfl, (T4.out.has.1.setCell (by simp; omega) _).setCell (by simp; omega) _⟩
theorem make_inv {n : Int} {D : Nat} (h : Rat.chk n D) (h0 : n ≠ 0) : Rat.makeOut (D : Int) n = .tuple #[.agg #[.int .i64 (n.sign * (D : Int)), .int .i64 (n.natAbs : Nat)], .int .i64 0] := by
  obtain ⟨h1, h2, h3⟩ := h
  rw [Int.natAbs_natCast] at h3
  unfold Rat.makeOut
  rw [Int.natAbs_natCast, Nat.gcd_comm, h3, Nat.div_one, Nat.div_one, Rat.sign_pos' (show (0 : Int) < D by omega), Int.one_mul]
  refine Rat.pairOut_yes ?_ (by omega)
  rcases Int.lt_or_gt_of_ne h0 with hs | hs
  · rw [Rat.sign_neg' hs]; omega
  · rw [Rat.sign_pos' hs]; omega
theorem div_any (n1 d1 n2 d2 : Int) (i1 : inI n1) (i2 : inI d1) (i3 : inI n2) (i4 : inI d2) (w : World) :
    Calls Tryd.prog 26 #[.agg #[.int .i64 n1, .int .i64 d1], .agg #[.int .i64 n2, .int .i64 d2]] w fun e w' => e = .returned (Rat.divOut n1 d1 n2 d2) ∧ Below w.heap.size w w' := by
  unfold Rat.divOut
  by_cases h : Rat.chk n1 d1 ∧ Rat.chk n2 d2
  · have VA := Lib.hid fun w => valid_yes n1 d1 n2 d2 h.1 h.2 w
    by_cases h0 : n2 = 0
    · rw [if_pos ⟨h.1, h.2, h0⟩]
      subst h0
      exact div_err n1 d1 0 d2 0 0 26 (by decide) VA (Lib.hid fun w => make_zero d2 w) w
    · rw [if_neg (fun hh => h0 hh.2.2), Rat.opOut_yes h]
      obtain ⟨D1, rfl, hx⟩ := Rat.chk_nat h.1
      obtain ⟨D2, rfl, hy⟩ := Rat.chk_nat h.2
      obtain ⟨hc, hq⟩ := Rat.toQ_inv hy h0
      have MK := fun w => make_any D2 n2 i4 i3 h0 w
      rw [make_inv hy h0] at MK
      have MU := fun w => mul_any n1 D1 (n2.sign * (D2 : Int)) (n2.natAbs : Nat) i1 i2 (chk_bounds hc).2.2.2.1 (chk_bounds hc).2.2.2.2 w
      rw [Rat.opOut_yes ⟨hx, hc⟩, Int.toNat_natCast, Int.toNat_natCast, hq, ← _root_.Rat.div_def] at MU
      rw [Int.toNat_natCast, Int.toNat_natCast]
      obtain ⟨p, q, y, ho⟩ : ∃ p q y : Int, Rat.outQ (Rat.toQ n1 D1 / Rat.toQ n2 D2) = .tuple #[.agg #[.int .i64 p, .int .i64 q], .int .i64 y] := Rat.pairOut_form _ _
      rw [ho] at MU ⊢
      exact div_ok n1 D1 n2 D2 _ _ p q y VA (Lib.hid MK) (Lib.hid MU) w
  · rw [if_neg (fun hh => h ⟨hh.1, hh.2.1⟩), Rat.opOut_no h]
    exact div_no n1 d1 n2 d2 (Lib.hid fun w => valid_no n1 d1 n2 d2 i1 i2 i3 i4 h w) w

set_option maxHeartbeats 1000000 in
set_option maxRecDepth 100000 in
theorem floor_no (n d : Int) (i1 : inI n) (i2 : inI d) (hx : ¬ Rat.chk n d) (w : World) :
    Calls Tryd.prog 15 #[.agg #[.int .i64 n, .int .i64 d]] w fun e w' => e = .returned (.int .i64 0) ∧ Below w.heap.size w w' := by
  have KX := Lib.hid fun w => check_no n d i1 i2 hx w
  clear hx i1 i2
  go_enter Tryd.func15, Tryd.ntmps15
  go_wp2_with fail
  with_reducible refine (KX.out _).mono ?_
  rintro e w1 ⟨rfl, hb1⟩
  have T1 := Lib.hid (((Has.start w).alloc #[.int .i64 n, .int .i64 d] 23).step hb1)
  clear hb1 KX
  go_wp2
  go_ret
  exact ⟨rfl, T1.out.1⟩
theorem floor_math (n : Int) (D : Nat) (hn : n < 0) (hD : 0 < D) : (n.tmod D < 0 → n.tdiv D - 1 = n / (D : Int)) ∧ (0 ≤ n.tmod D → n.tdiv D = n / (D : Int)) ∧ n ≤ n.tdiv D ∧ n.tdiv D ≤ 0 := by
  have h1 := Int.mul_ediv_add_emod n (D : Int)
  have h2 := Int.emod_nonneg n (show (D : Int) ≠ 0 by omega)
  have h3 := Int.emod_lt_of_pos n (show 0 < (D : Int) by omega)
  obtain ⟨m, hm⟩ := Int.eq_ofNat_of_zero_le (show 0 ≤ -n by omega)
  have e0 : n = -(m : Int) := by omega
  have e1 : n.tdiv D = -((m / D : Nat) : Int) := by rw [e0, Int.neg_tdiv, Int.tdiv_eq_ediv_of_nonneg (by omega)]; simp
  have e2 : n.tmod D = -((m % D : Nat) : Int) := by rw [e0, Int.neg_tmod, Int.tmod_eq_emod_of_nonneg (by omega)]; simp
  have h4 := Nat.div_add_mod m D
  have h5 := Nat.mod_lt m hD
  have h6 : m / D ≤ m := Nat.div_le_self _ _
  rw [e1, e2]
  have e3 : (m : Int) = (D : Int) * ((m / D : Nat) : Int) + ((m % D : Nat) : Int) := by
    have h : ((D * (m / D) + m % D : Nat) : Int) = (m : Int) := by rw [h4]
    push_cast at h ⊢
    exact h.symm
  generalize m / D = q at *
  generalize m % D = r at *
  generalize n / (D : Int) = z at *
  generalize n % (D : Int) = y at *
  have key : (D : Int) * (z + q) = -(r : Int) - y := by rw [Int.mul_add]; omega
  have hlo : -2 < z + q := by
    rcases (show -2 < z + q ∨ z + q ≤ -2 by omega) with h | h
    · exact h
    · have := Int.mul_le_mul_of_nonneg_left h (show (0 : Int) ≤ D by omega)
      omega
  have hhi : z + q < 1 := by
    rcases (show z + q < 1 ∨ 1 ≤ z + q by omega) with h | h
    · exact h
    · have := Int.mul_le_mul_of_nonneg_left h (show (0 : Int) ≤ D by omega)
      omega
  have hc : z + q = -1 ∨ z + q = 0 := by omega
  refine ⟨fun hr => ?_, fun hr => ?_, by omega, by omega⟩
  · rcases hc with h | h
    · omega
    · rw [h] at key; omega
  · rcases hc with h | h
    · rw [h] at key; omega
    · omega
set_option maxHeartbeats 1000000 in
set_option maxRecDepth 100000 in
theorem floor_yes (n : Int) (D : Nat) (hx : Rat.chk n D) (w : World) :
    Calls Tryd.prog 15 #[.agg #[.int .i64 n, .int .i64 D]] w fun e w' => e = .returned (.int .i64 (n / (D : Int))) ∧ Below w.heap.size w w' := by
  have KX := Lib.hid fun w => check_yes n D hx w
  obtain ⟨⟨hd1, hd2⟩, ⟨hn1, hn2⟩, _⟩ := hx
  have hd0 : ¬ ((D : Int) = 0) := by omega
  have hd0' : ¬ (D = 0) := by omega
  by_cases hs : n < 0
  · go_enter Tryd.func15, Tryd.ntmps15
    go_wp2_with fail
    with_reducible refine (KX.out _).mono ?_
    rintro e w1 ⟨rfl, hb1⟩
    have T1 := Lib.hid (((Has.start w).alloc #[.int .i64 n, .int .i64 (D : Int)] 23).step hb1)
    clear hb1 KX
    obtain ⟨c0, c1⟩ := cells2 (T1.out.row (List.mem_singleton.2 rfl))
    obtain ⟨m1, m2, m3, m4⟩ := floor_math n D hs (by omega)
    have M := Lib.hid (And.intro m1 m2)
    clear m1 m2
    go_wp2
    · rename_i hr
      go_ret
      exact ⟨congrArg (fun z => Ending.returned (Value.int .i64 z)) (M.out.1 hr), T1.out.1⟩
    · rename_i hr
      go_ret
      exact ⟨congrArg (fun z => Ending.returned (Value.int .i64 z)) (M.out.2 hr), T1.out.1⟩
  · go_enter Tryd.func15, Tryd.ntmps15
    go_wp2_with fail
    with_reducible refine (KX.out _).mono ?_
    rintro e w1 ⟨rfl, hb1⟩
    have T1 := Lib.hid (((Has.start w).alloc #[.int .i64 n, .int .i64 (D : Int)] 23).step hb1)
    clear hb1 KX
    obtain ⟨c0, c1⟩ := cells2 (T1.out.row (List.mem_singleton.2 rfl))
    have hmn := Int.emod_nonneg n hd0
    go_wp2
    all_goals first
      | (exfalso; omega)
      | (go_ret
         exact ⟨rfl, T1.out.1⟩)
end Go.Proofs.YtbhlpcomgfmodaaDoor.Pro
