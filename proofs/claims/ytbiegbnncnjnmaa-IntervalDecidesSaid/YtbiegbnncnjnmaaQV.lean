/- The mathematics and the walk of IntervalElements. -/
import Derived.Test.YtbiegbnncnjnmaaQU
import Derived.Test.YtbiegbnncnjnmaaMLf
set_option linter.unusedVariables false
set_option linter.unusedSimpArgs false
namespace Go.Proofs.Ytbiegbnncnjnmaa.Iv
open Go.RowKit
open Go.Proofs.Ytbiegbnncnjnmaa.Pro (res_two cells2 frozen2 info23 Has Has.alloc)
open Go.Proofs.Ytbiegbnncnjnmaa.Rat (inI)

/-- Two fractions stand. -/
structure PQ2 (w : World) (a b p q : Int) (V : World) : Prop where
  has : Has w [(w.heap.size, #[.int .i64 a, .int .i64 b], 23), (w.heap.size + 1, #[.int .i64 p, .int .i64 q], 23)] V
theorem PQ2.all {w V : World} {a b p q : Int} (h : PQ2 w a b p q V) : PQ2 w a b p q V ∧ (V.cell? ⟨w.heap.size, 0, none⟩ = some (.int .i64 a) ∧ V.cell? ⟨w.heap.size, 1, none⟩ = some (.int .i64 b)) ∧ V.cell? ⟨w.heap.size + 1, 0, none⟩ = some (.int .i64 p) ∧ V.cell? ⟨w.heap.size + 1, 1, none⟩ = some (.int .i64 q) :=
  ⟨h, cells2 (h.has.row (b := w.heap.size) (cs := #[.int .i64 a, .int .i64 b]) (t := 23) (by simp)), cells2 (h.has.row (b := w.heap.size + 1) (cs := #[.int .i64 p, .int .i64 q]) (t := 23) (by simp))⟩
set_option maxRecDepth 100000 in
set_option maxHeartbeats 2000000 in
theorem llesser_yes (a b p q m : Int) (h : m ≤ 0)
    (M : Hid (∀ w : World, Calls Try.prog 39 #[.agg #[.int .i64 a, .int .i64 b], .agg #[.int .i64 p, .int .i64 q]] w fun e w' => e = .returned (.int .i64 m) ∧ Below w.heap.size w w'))
    (w : World) : Calls Try.prog 32 #[.agg #[.int .i64 a, .int .i64 b], .agg #[.int .i64 p, .int .i64 q]] w fun e w' => e = .returned (.tuple #[.agg #[.int .i64 a, .int .i64 b], .agg #[.int .i64 p, .int .i64 q]]) ∧ Below w.heap.size w w' := by
  have T0 := Lib.hid (four0 w #[.int .i64 a, .int .i64 b] #[.int .i64 p, .int .i64 q] #[.int .i64 0, .int .i64 0] #[.int .i64 0, .int .i64 0] 23 23 23 23)
  go_enter Try.func32, Try.ntmps32
  go_wp2_with fail
  with_reducible refine ((M.out) _).mono ?_
  rintro e w1 ⟨rfl, hb⟩
  have T1 := Lib.hid (T0.out.step hb)
  clear hb T0 M
  go_upto_region 2 with fail
  have TD := Lib.hid T1.out.drew
  refine wp_region_held_drew (S := (fun V => PQ2 w a b p q V ∧ (V.cell? ⟨w.heap.size, 0, none⟩ = some (.int .i64 a) ∧ V.cell? ⟨w.heap.size, 1, none⟩ = some (.int .i64 b)) ∧ V.cell? ⟨w.heap.size + 1, 0, none⟩ = some (.int .i64 p) ∧ V.cell? ⟨w.heap.size + 1, 1, none⟩ = some (.int .i64 q))) (by kernel_rfl) (PQ2.all ⟨TD.out.sub (by simp)⟩) (fun hHeld => ?_)
  generalize w1.drew = WD at *
  refine wpAnyH_take (i := 0) (v := _) rfl (by kernel_rfl) (by kernel_rfl) (by kernel_rfl) (fun _ _ _ h => h) (Or.inl ⟨by rfl, by intro w hSw; (try dsimp only at hSw); go_simp; try (with_reducible rfl)⟩) (by assumption) ?_
  try simp only [Act.put, List.setIfInBounds_toArray, List.set_cons_zero, List.set_cons_succ]
  refine wpAnyH_take (i := 1) (v := _) rfl (by kernel_rfl) (by kernel_rfl) (by kernel_rfl) (fun _ _ _ h => h) (Or.inl ⟨by rfl, by intro w hSw; (try dsimp only at hSw); go_simp; try (with_reducible rfl)⟩) (by assumption) ?_
  try simp only [Act.put, List.setIfInBounds_toArray, List.set_cons_zero, List.set_cons_succ]
  refine wpAnyH_ready (rs := [2]) (by kernel_rfl) (by simp) ?_
  refine AllReadyH.cons rfl (fun K hK => ?_) AllReadyH.nil
  obtain ⟨k0, k1, k4⟩ := Has.c2 (g := w.heap.size + 1 + 1) (x := .int .i64 0) (y := .int .i64 0) (t := 23) TD.out (by simp)
  obtain ⟨k5, k6⟩ := frozen2 (TD.out.row (b := w.heap.size + 1 + 1) (cs := #[.int .i64 0, .int .i64 0]) (t := 23) (by simp))
  go_simp
  have F1 := Lib.hid (Has.put2 (g := w.heap.size + 1 + 1) (x := .int .i64 0) (y := .int .i64 0) (t := 23) (M := [(w.heap.size + 1 + 1 + 1, #[.int .i64 0, .int .i64 0], 23), (w.heap.size + 1, #[.int .i64 p, .int .i64 q], 23), (w.heap.size, #[.int .i64 a, .int .i64 b], 23)]) TD.out (.int .i64 a) (.int .i64 b) (by simp) (by simp <;> omega))
  refine hK.out _ _ (PQ2.all ⟨F1.out.sub (by simp)⟩) (fun hHeld => ?_)
  clear hK K k0 k1 k4 k5 k6
  try simp only [Act.put, List.setIfInBounds_toArray, List.set_cons_zero, List.set_cons_succ]
  generalize (WD.setCell ⟨w.heap.size + 1 + 1, 0, none⟩ (.int .i64 a)).setCell ⟨w.heap.size + 1 + 1, 1, none⟩ (.int .i64 b) = W2 at *
  refine wpAnyH_ready (rs := [3]) (by kernel_rfl) (by simp) ?_
  refine AllReadyH.cons rfl (fun K hK => ?_) AllReadyH.nil
  obtain ⟨k0, k1, k4⟩ := Has.c2 (g := w.heap.size + 1 + 1 + 1) (x := .int .i64 0) (y := .int .i64 0) (t := 23) F1.out (by simp)
  obtain ⟨k5, k6⟩ := frozen2 (F1.out.row (b := w.heap.size + 1 + 1 + 1) (cs := #[.int .i64 0, .int .i64 0]) (t := 23) (by simp))
  go_simp
  have F2 := Lib.hid (Has.put2 (g := w.heap.size + 1 + 1 + 1) (x := .int .i64 0) (y := .int .i64 0) (t := 23) (M := [(w.heap.size + 1 + 1, #[.int .i64 a, .int .i64 b], 23), (w.heap.size + 1, #[.int .i64 p, .int .i64 q], 23), (w.heap.size, #[.int .i64 a, .int .i64 b], 23)]) F1.out (.int .i64 p) (.int .i64 q) (by simp) (by simp <;> omega))
  refine hK.out _ _ (PQ2.all ⟨F2.out.sub (by simp)⟩) (fun hHeld => ?_)
  clear hK K k0 k1 k4 k5 k6
  try simp only [Act.put, List.setIfInBounds_toArray, List.set_cons_zero, List.set_cons_succ]
  refine wpAnyH_done (by kernel_rfl) ?_ _
  go_wp2
  refine bodyPost_ret (res_two rfl _ _ (w.heap.size + 1 + 1) (w.heap.size + 1 + 1 + 1) 23 #[.int .i64 a, .int .i64 b] #[.int .i64 p, .int .i64 q] _ rfl rfl (F2.out.row (by simp)) (F2.out.row (by simp)) Try.underlying23 rfl info23 info23) rfl ?_
  exact ⟨rfl, F2.out.1⟩
set_option maxRecDepth 100000 in
set_option maxHeartbeats 2000000 in
theorem llesser_no (a b p q m : Int) (h : ¬ m ≤ 0)
    (M : Hid (∀ w : World, Calls Try.prog 39 #[.agg #[.int .i64 a, .int .i64 b], .agg #[.int .i64 p, .int .i64 q]] w fun e w' => e = .returned (.int .i64 m) ∧ Below w.heap.size w w'))
    (w : World) : Calls Try.prog 32 #[.agg #[.int .i64 a, .int .i64 b], .agg #[.int .i64 p, .int .i64 q]] w fun e w' => e = .returned (.tuple #[.agg #[.int .i64 p, .int .i64 q], .agg #[.int .i64 a, .int .i64 b]]) ∧ Below w.heap.size w w' := by
  have T0 := Lib.hid (four0 w #[.int .i64 a, .int .i64 b] #[.int .i64 p, .int .i64 q] #[.int .i64 0, .int .i64 0] #[.int .i64 0, .int .i64 0] 23 23 23 23)
  go_enter Try.func32, Try.ntmps32
  go_wp2_with fail
  with_reducible refine ((M.out) _).mono ?_
  rintro e w1 ⟨rfl, hb⟩
  have T1 := Lib.hid (T0.out.step hb)
  clear hb T0 M
  go_upto_region 3 with fail
  have TD := Lib.hid T1.out.drew
  refine wp_region_held_drew (S := (fun V => PQ2 w a b p q V ∧ (V.cell? ⟨w.heap.size, 0, none⟩ = some (.int .i64 a) ∧ V.cell? ⟨w.heap.size, 1, none⟩ = some (.int .i64 b)) ∧ V.cell? ⟨w.heap.size + 1, 0, none⟩ = some (.int .i64 p) ∧ V.cell? ⟨w.heap.size + 1, 1, none⟩ = some (.int .i64 q))) (by kernel_rfl) (PQ2.all ⟨TD.out.sub (by simp)⟩) (fun hHeld => ?_)
  generalize w1.drew = WD at *
  refine wpAnyH_take (i := 0) (v := _) rfl (by kernel_rfl) (by kernel_rfl) (by kernel_rfl) (fun _ _ _ h => h) (Or.inl ⟨by rfl, by intro w hSw; (try dsimp only at hSw); go_simp; try (with_reducible rfl)⟩) (by assumption) ?_
  try simp only [Act.put, List.setIfInBounds_toArray, List.set_cons_zero, List.set_cons_succ]
  refine wpAnyH_take (i := 1) (v := _) rfl (by kernel_rfl) (by kernel_rfl) (by kernel_rfl) (fun _ _ _ h => h) (Or.inl ⟨by rfl, by intro w hSw; (try dsimp only at hSw); go_simp; try (with_reducible rfl)⟩) (by assumption) ?_
  try simp only [Act.put, List.setIfInBounds_toArray, List.set_cons_zero, List.set_cons_succ]
  refine wpAnyH_ready (rs := [2]) (by kernel_rfl) (by simp) ?_
  refine AllReadyH.cons rfl (fun K hK => ?_) AllReadyH.nil
  obtain ⟨k0, k1, k4⟩ := Has.c2 (g := w.heap.size + 1 + 1) (x := .int .i64 0) (y := .int .i64 0) (t := 23) TD.out (by simp)
  obtain ⟨k5, k6⟩ := frozen2 (TD.out.row (b := w.heap.size + 1 + 1) (cs := #[.int .i64 0, .int .i64 0]) (t := 23) (by simp))
  go_simp
  have F1 := Lib.hid (Has.put2 (g := w.heap.size + 1 + 1) (x := .int .i64 0) (y := .int .i64 0) (t := 23) (M := [(w.heap.size + 1 + 1 + 1, #[.int .i64 0, .int .i64 0], 23), (w.heap.size + 1, #[.int .i64 p, .int .i64 q], 23), (w.heap.size, #[.int .i64 a, .int .i64 b], 23)]) TD.out (.int .i64 p) (.int .i64 q) (by simp) (by simp <;> omega))
  refine hK.out _ _ (PQ2.all ⟨F1.out.sub (by simp)⟩) (fun hHeld => ?_)
  clear hK K k0 k1 k4 k5 k6
  try simp only [Act.put, List.setIfInBounds_toArray, List.set_cons_zero, List.set_cons_succ]
  generalize (WD.setCell ⟨w.heap.size + 1 + 1, 0, none⟩ (.int .i64 p)).setCell ⟨w.heap.size + 1 + 1, 1, none⟩ (.int .i64 q) = W2 at *
  refine wpAnyH_ready (rs := [3]) (by kernel_rfl) (by simp) ?_
  refine AllReadyH.cons rfl (fun K hK => ?_) AllReadyH.nil
  obtain ⟨k0, k1, k4⟩ := Has.c2 (g := w.heap.size + 1 + 1 + 1) (x := .int .i64 0) (y := .int .i64 0) (t := 23) F1.out (by simp)
  obtain ⟨k5, k6⟩ := frozen2 (F1.out.row (b := w.heap.size + 1 + 1 + 1) (cs := #[.int .i64 0, .int .i64 0]) (t := 23) (by simp))
  go_simp
  have F2 := Lib.hid (Has.put2 (g := w.heap.size + 1 + 1 + 1) (x := .int .i64 0) (y := .int .i64 0) (t := 23) (M := [(w.heap.size + 1 + 1, #[.int .i64 p, .int .i64 q], 23), (w.heap.size + 1, #[.int .i64 p, .int .i64 q], 23), (w.heap.size, #[.int .i64 a, .int .i64 b], 23)]) F1.out (.int .i64 a) (.int .i64 b) (by simp) (by simp <;> omega))
  refine hK.out _ _ (PQ2.all ⟨F2.out.sub (by simp)⟩) (fun hHeld => ?_)
  clear hK K k0 k1 k4 k5 k6
  try simp only [Act.put, List.setIfInBounds_toArray, List.set_cons_zero, List.set_cons_succ]
  refine wpAnyH_done (by kernel_rfl) ?_ _
  go_wp2
  refine bodyPost_ret (res_two rfl _ _ (w.heap.size + 1 + 1) (w.heap.size + 1 + 1 + 1) 23 #[.int .i64 p, .int .i64 q] #[.int .i64 a, .int .i64 b] _ rfl rfl (F2.out.row (by simp)) (F2.out.row (by simp)) Try.underlying23 rfl info23 info23) rfl ?_
  exact ⟨rfl, F2.out.1⟩
set_option maxRecDepth 100000 in
set_option maxHeartbeats 2000000 in
theorem elaw_out1 (a b c d p q r s f g t v : Int)
    (IX : Hid (∀ w : World, Calls Try.prog 30 #[.agg #[.int .i64 f, .int .i64 g], .agg #[.int .i64 a, .int .i64 b, .int .i64 c, .int .i64 d]] w fun e w' => e = .returned (.bool false) ∧ Below w.heap.size w w'))
    (AW : Hid (∀ w : World, Calls Try.prog 19 #[] w fun e w' => e = .returned (.bool true) ∧ Below w.heap.size w w'))
    (w : World) : Calls Try.prog 6 #[.agg #[.int .i64 a, .int .i64 b, .int .i64 c, .int .i64 d], .agg #[.int .i64 p, .int .i64 q, .int .i64 r, .int .i64 s], .agg #[.int .i64 f, .int .i64 g], .agg #[.int .i64 t, .int .i64 v]] w fun e w' => e = .returned (.bool true) ∧ Below w.heap.size w w' := by
  have T0 := Lib.hid (four0 w #[.int .i64 a, .int .i64 b, .int .i64 c, .int .i64 d] #[.int .i64 p, .int .i64 q, .int .i64 r, .int .i64 s] #[.int .i64 f, .int .i64 g] #[.int .i64 t, .int .i64 v] 25 25 23 23)
  go_enter Try.func6, Try.ntmps6
  go_upto_region 1 with fail
  generalize (((w.alloc (.cells #[.int .i64 a, .int .i64 b, .int .i64 c, .int .i64 d] 25)).alloc (.cells #[.int .i64 p, .int .i64 q, .int .i64 r, .int .i64 s] 25)).alloc (.cells #[.int .i64 f, .int .i64 g] 23)).alloc (.cells #[.int .i64 t, .int .i64 v] 23) = W0 at *
  obtain ⟨x0, x1, x2, x3, x4⟩ := Has.c4 (g := w.heap.size) (x := .int .i64 a) (y := .int .i64 b) (z := .int .i64 c) (u := .int .i64 d) (t := 25) T0.out (by simp)
  obtain ⟨y0, y1, y2, y3, y4⟩ := Has.c4 (g := w.heap.size + 1) (x := .int .i64 p) (y := .int .i64 q) (z := .int .i64 r) (u := .int .i64 s) (t := 25) T0.out (by simp)
  obtain ⟨k0, k1, k4⟩ := Has.c2 (g := w.heap.size + 1 + 1) (x := .int .i64 f) (y := .int .i64 g) (t := 23) T0.out (by simp)
  obtain ⟨l0, l1, l4⟩ := Has.c2 (g := w.heap.size + 1 + 1 + 1) (x := .int .i64 t) (y := .int .i64 v) (t := 23) T0.out (by simp)
  go_wp2_with fail
  with_reducible refine ((IX.out) _).mono ?_
  rintro e w1 ⟨rfl, hb⟩
  have T1 := Lib.hid (T0.out.step hb)
  clear hb
  clear x0 x1 x2 x3 x4 y0 y1 y2 y3 y4 k0 k1 k4 l0 l1 l4
  go_wp2_with fail
  with_reducible refine ((AW.out) _).mono ?_
  rintro e w3 ⟨rfl, hb⟩
  have T3 := Lib.hid (T1.out.step hb)
  clear hb
  go_wp2
  go_ret
  exact ⟨rfl, T3.out.1⟩
set_option maxRecDepth 100000 in
set_option maxHeartbeats 2000000 in
theorem elaw_out2 (a b c d p q r s f g t v : Int)
    (IX : Hid (∀ w : World, Calls Try.prog 30 #[.agg #[.int .i64 f, .int .i64 g], .agg #[.int .i64 a, .int .i64 b, .int .i64 c, .int .i64 d]] w fun e w' => e = .returned (.bool true) ∧ Below w.heap.size w w'))
    (IY : Hid (∀ w : World, Calls Try.prog 30 #[.agg #[.int .i64 t, .int .i64 v], .agg #[.int .i64 p, .int .i64 q, .int .i64 r, .int .i64 s]] w fun e w' => e = .returned (.bool false) ∧ Below w.heap.size w w'))
    (AW : Hid (∀ w : World, Calls Try.prog 19 #[] w fun e w' => e = .returned (.bool true) ∧ Below w.heap.size w w'))
    (w : World) : Calls Try.prog 6 #[.agg #[.int .i64 a, .int .i64 b, .int .i64 c, .int .i64 d], .agg #[.int .i64 p, .int .i64 q, .int .i64 r, .int .i64 s], .agg #[.int .i64 f, .int .i64 g], .agg #[.int .i64 t, .int .i64 v]] w fun e w' => e = .returned (.bool true) ∧ Below w.heap.size w w' := by
  have T0 := Lib.hid (four0 w #[.int .i64 a, .int .i64 b, .int .i64 c, .int .i64 d] #[.int .i64 p, .int .i64 q, .int .i64 r, .int .i64 s] #[.int .i64 f, .int .i64 g] #[.int .i64 t, .int .i64 v] 25 25 23 23)
  go_enter Try.func6, Try.ntmps6
  go_upto_region 1 with fail
  generalize (((w.alloc (.cells #[.int .i64 a, .int .i64 b, .int .i64 c, .int .i64 d] 25)).alloc (.cells #[.int .i64 p, .int .i64 q, .int .i64 r, .int .i64 s] 25)).alloc (.cells #[.int .i64 f, .int .i64 g] 23)).alloc (.cells #[.int .i64 t, .int .i64 v] 23) = W0 at *
  obtain ⟨x0, x1, x2, x3, x4⟩ := Has.c4 (g := w.heap.size) (x := .int .i64 a) (y := .int .i64 b) (z := .int .i64 c) (u := .int .i64 d) (t := 25) T0.out (by simp)
  obtain ⟨y0, y1, y2, y3, y4⟩ := Has.c4 (g := w.heap.size + 1) (x := .int .i64 p) (y := .int .i64 q) (z := .int .i64 r) (u := .int .i64 s) (t := 25) T0.out (by simp)
  obtain ⟨k0, k1, k4⟩ := Has.c2 (g := w.heap.size + 1 + 1) (x := .int .i64 f) (y := .int .i64 g) (t := 23) T0.out (by simp)
  obtain ⟨l0, l1, l4⟩ := Has.c2 (g := w.heap.size + 1 + 1 + 1) (x := .int .i64 t) (y := .int .i64 v) (t := 23) T0.out (by simp)
  go_wp2_with fail
  with_reducible refine ((IX.out) _).mono ?_
  rintro e w1 ⟨rfl, hb⟩
  have T1 := Lib.hid (T0.out.step hb)
  clear hb
  clear x0 x1 x2 x3 x4 y0 y1 y2 y3 y4 k0 k1 k4 l0 l1 l4
  obtain ⟨x0, x1, x2, x3, x4⟩ := Has.c4 (g := w.heap.size) (x := .int .i64 a) (y := .int .i64 b) (z := .int .i64 c) (u := .int .i64 d) (t := 25) T1.out (by simp)
  obtain ⟨y0, y1, y2, y3, y4⟩ := Has.c4 (g := w.heap.size + 1) (x := .int .i64 p) (y := .int .i64 q) (z := .int .i64 r) (u := .int .i64 s) (t := 25) T1.out (by simp)
  obtain ⟨k0, k1, k4⟩ := Has.c2 (g := w.heap.size + 1 + 1) (x := .int .i64 f) (y := .int .i64 g) (t := 23) T1.out (by simp)
  obtain ⟨l0, l1, l4⟩ := Has.c2 (g := w.heap.size + 1 + 1 + 1) (x := .int .i64 t) (y := .int .i64 v) (t := 23) T1.out (by simp)
  go_wp2_with fail
  with_reducible refine ((IY.out) _).mono ?_
  rintro e w2 ⟨rfl, hb⟩
  have T2 := Lib.hid (T1.out.step hb)
  clear hb
  clear x0 x1 x2 x3 x4 y0 y1 y2 y3 y4 k0 k1 k4 l0 l1 l4
  go_wp2_with fail
  with_reducible refine ((AW.out) _).mono ?_
  rintro e w3 ⟨rfl, hb⟩
  have T3 := Lib.hid (T2.out.step hb)
  clear hb
  go_wp2
  go_ret
  exact ⟨rfl, T3.out.1⟩
theorem in4c (n d : Int) (x : I4) (i : inI n) (j : inI d) (hx : in4 x) : Hid (∀ w : World, Calls Try.prog 30 #[.agg #[.int .i64 n, .int .i64 d], .agg #[.int .i64 x.1, .int .i64 x.2.1, .int .i64 x.2.2.1, .int .i64 x.2.2.2]] w fun e w' => e = .returned (.bool (el n d x)) ∧ Below w.heap.size w w') :=
  Lib.hid fun w => in_raw n d x.1 x.2.1 x.2.2.1 x.2.2.2 _ _ _ _ (rck n d i j) (pcheck4 x hx) (rcm x.1 x.2.1 n d hx.1 hx.2.1 i j) (rcm n d x.2.2.1 x.2.2.2 i j hx.2.2.1 hx.2.2.2) w
theorem single0 (n1 d1 n2 d2 : Int) (i1 : inI n1) (j1 : inI d1) (i2 : inI n2) (j2 : inI d2) : Hid (∀ w : World, Calls Try.prog 31 #[.int .i64 0, .agg #[.int .i64 n1, .int .i64 d1], .agg #[.int .i64 n2, .int .i64 d2]] w fun e w' => e = .returned (.tuple #[.agg #[.int .i64 (opT (· + ·) n1 d1 n2 d2).1, .int .i64 (opT (· + ·) n1 d1 n2 d2).2.1], .int .i64 (opT (· + ·) n1 d1 n2 d2).2.2]) ∧ Below w.heap.size w w') := Lib.hid fun w => single0_raw n1 d1 n2 d2 _ _ _ (radd n1 d1 n2 d2 i1 j1 i2 j2) w
theorem single1 (n1 d1 n2 d2 : Int) (i1 : inI n1) (j1 : inI d1) (i2 : inI n2) (j2 : inI d2) : Hid (∀ w : World, Calls Try.prog 31 #[.int .i64 1, .agg #[.int .i64 n1, .int .i64 d1], .agg #[.int .i64 n2, .int .i64 d2]] w fun e w' => e = .returned (.tuple #[.agg #[.int .i64 (opT (· - ·) n1 d1 n2 d2).1, .int .i64 (opT (· - ·) n1 d1 n2 d2).2.1], .int .i64 (opT (· - ·) n1 d1 n2 d2).2.2]) ∧ Below w.heap.size w w') := Lib.hid fun w => single1_raw n1 d1 n2 d2 _ _ _ (rsub n1 d1 n2 d2 i1 j1 i2 j2) w
theorem single2 (n1 d1 n2 d2 : Int) (i1 : inI n1) (j1 : inI d1) (i2 : inI n2) (j2 : inI d2) : Hid (∀ w : World, Calls Try.prog 31 #[.int .i64 2, .agg #[.int .i64 n1, .int .i64 d1], .agg #[.int .i64 n2, .int .i64 d2]] w fun e w' => e = .returned (.tuple #[.agg #[.int .i64 (opT (· * ·) n1 d1 n2 d2).1, .int .i64 (opT (· * ·) n1 d1 n2 d2).2.1], .int .i64 (opT (· * ·) n1 d1 n2 d2).2.2]) ∧ Below w.heap.size w w') := Lib.hid fun w => single2_raw n1 d1 n2 d2 _ _ _ (rmul n1 d1 n2 d2 i1 j1 i2 j2) w
theorem single3 (n1 d1 n2 d2 : Int) (i1 : inI n1) (j1 : inI d1) (i2 : inI n2) (j2 : inI d2) : Hid (∀ w : World, Calls Try.prog 31 #[.int .i64 3, .agg #[.int .i64 n1, .int .i64 d1], .agg #[.int .i64 n2, .int .i64 d2]] w fun e w' => e = .returned (.tuple #[.agg #[.int .i64 (opD n1 d1 n2 d2).1, .int .i64 (opD n1 d1 n2 d2).2.1], .int .i64 (opD n1 d1 n2 d2).2.2]) ∧ Below w.heap.size w w') := Lib.hid fun w => single3_raw n1 d1 n2 d2 _ _ _ (rdivT n1 d1 n2 d2 i1 j1 i2 j2) w
/-- The lesser and the greater one. -/
def lesL (n1 d1 n2 d2 : Int) : (Int × Int) × Int × Int := if Rat.cmpOut n1 d1 n2 d2 ≤ 0 then ((n1, d1), (n2, d2)) else ((n2, d2), (n1, d1))
theorem lesL_val {n1 d1 n2 d2 : Int} {A B : _root_.Rat} (h : Val n1 d1 A) (h' : Val n2 d2 B) : Val (lesL n1 d1 n2 d2).1.1 (lesL n1 d1 n2 d2).1.2 (rmin A B) ∧ Val (lesL n1 d1 n2 d2).2.1 (lesL n1 d1 n2 d2).2.2 (rmax A B) := by
  unfold lesL rmin rmax
  rw [cmp_val h h']
  by_cases e : cmpQ A B ≤ 0
  · rw [if_pos e, if_pos (cmpQ_le.1 e)]
    refine ⟨h, ?_⟩
    by_cases e2 : B ≤ A
    · rw [if_pos e2, Rat.le_antisymm (cmpQ_le.1 e) e2]
      exact h'
    · rw [if_neg e2]
      exact h'
  · have e1 : ¬ A ≤ B := fun x => e (cmpQ_le.2 x)
    rw [if_neg e, if_neg e1, if_pos (Rat.le_of_lt (Rat.not_le.1 e1))]
    exact ⟨h', h⟩
theorem llesser4 (n1 d1 n2 d2 : Int) (i1 : inI n1) (j1 : inI d1) (i2 : inI n2) (j2 : inI d2) : Hid (∀ w : World, Calls Try.prog 32 #[.agg #[.int .i64 n1, .int .i64 d1], .agg #[.int .i64 n2, .int .i64 d2]] w fun e w' => e = .returned (.tuple #[.agg #[.int .i64 (lesL n1 d1 n2 d2).1.1, .int .i64 (lesL n1 d1 n2 d2).1.2], .agg #[.int .i64 (lesL n1 d1 n2 d2).2.1, .int .i64 (lesL n1 d1 n2 d2).2.2]]) ∧ Below w.heap.size w w') := Lib.hid fun w => by
  have M := rcm n1 d1 n2 d2 i1 j1 i2 j2
  unfold lesL
  by_cases h : Rat.cmpOut n1 d1 n2 d2 ≤ 0
  · rw [if_pos h]
    exact llesser_yes n1 d1 n2 d2 _ h M w
  · rw [if_neg h]
    exact llesser_no n1 d1 n2 d2 _ h M w
theorem Val.inI {n d : Int} {A : _root_.Rat} (h : Val n d A) : inI n ∧ inI d := ⟨(chkB h.chk).2.2.2.1, (chkB h.chk).2.2.2.2⟩
theorem el_yes {n d : Int} {x : I4} {L R A : _root_.Rat} (h : V4 x L R) (ha : Val n d A) (h1 : L ≤ A) (h2 : A ≤ R) : Hid (∀ w : World, Calls Try.prog 30 #[.agg #[.int .i64 n, .int .i64 d], .agg #[.int .i64 x.1, .int .i64 x.2.1, .int .i64 x.2.2.1, .int .i64 x.2.2.2]] w fun e w' => e = .returned (.bool true) ∧ Below w.heap.size w w') := by
  have k := in4c n d x ha.inI.1 ha.inI.2 h.in4
  rw [(el_val h ha).2 ⟨h1, h2⟩] at k
  exact k
theorem elements_walk (x y : I4) (hx : in4 x) (hy : in4 y) (f g t v : Int) (jf : inI f) (jg : inI g) (jt : inI t) (jv : inI v) (w : World) : Calls Try.prog 6 #[.agg #[.int .i64 x.1, .int .i64 x.2.1, .int .i64 x.2.2.1, .int .i64 x.2.2.2], .agg #[.int .i64 y.1, .int .i64 y.2.1, .int .i64 y.2.2.1, .int .i64 y.2.2.2], .agg #[.int .i64 f, .int .i64 g], .agg #[.int .i64 t, .int .i64 v]] w fun e w' => e = .returned (.bool true) ∧ Below w.heap.size w w' := by
  have IX := in4c f g x jf jg hx
  have IY := in4c t v y jt jv hy
  by_cases c1 : el f g x = true
  · by_cases c2 : el t v y = true
    · rw [c1] at IX
      rw [c2] at IY
      obtain ⟨L1, H1, A, vx, va, a1, a2⟩ := el_iff.1 c1
      obtain ⟨L2, H2, B, vy, vb, b1, b2⟩ := el_iff.1 c2
      obtain ⟨vl, vg⟩ := lesL_val va vb
      have dn : (dv x y).2 = 0 → t ≠ 0 := fun e h => by
        have s := vb.sign.1.1 h
        rcases apart_in (dv_val vx vy e).1 b1 b2 with k | k <;> rw [s] at k <;> exact Rat.lt_irrefl k
      exact elaw_raw x.1 x.2.1 x.2.2.1 x.2.2.2 y.1 y.2.1 y.2.2.1 y.2.2.2 f g t v _ _ _ _ _ _ _ _ _ _ _ _ _ _ _ _ _ _ _ _ _ _ _ _ _ _ _ _ _ _ _ _ _ _ _ _ _ _ _ _ _ _ _ _ _ _ _ _  IX IY
        (arith0 x y hx hy) (single0 f g t v jf jg jt jv) (Lib.hid fun w e k => (el_yes (ad_val vx vy e) (opT_ok va vb k) (IvMath.add_mono a1 b1) (IvMath.add_mono a2 b2)).out w)
        (arith1 x y hx hy) (single1 f g t v jf jg jt jv) (Lib.hid fun w e k => (el_yes (sb_val vx vy e) (opT_ok va vb k) (IvMath.sub_mono a1 b2) (IvMath.sub_mono a2 b1)).out w)
        (arith2 x y hx hy) (single2 f g t v jf jg jt jv) (Lib.hid fun w e k => by
          obtain ⟨P, Q, vr, l⟩ := mu_val vx vy e
          have i := l.mul a1 a2 b1 b2
          exact (el_yes vr (opT_ok va vb k) i.1 i.2).out w)
        (arith3 x y hx hy) (single3 f g t v jf jg jt jv) (Lib.hid fun w e k => by
          obtain ⟨ap, P, Q, vr, l⟩ := dv_val vx vy e
          have i := l.div ap a1 a2 b1 b2
          rw [opD_eq (dn e)] at k ⊢
          exact (el_yes vr (opT_ok va vb k) i.1 i.2).out w)
        (Lib.hid fun e => by rw [opD_eq (dn e)]; exact (fe_no (opT_fe _ _ _ _ _)).1)
        (llesser4 f g t v jf jg jt jv) (pmin4 x y hx hy) (pmax4 x y hx hy) (phull4 x y hx hy)
        (el_yes (mn_val vx vy) vl (rmin_mono a1 b1) (rmin_mono a2 b2)) (el_yes (mx_val vx vy) vg (rmax_mono a1 b1) (rmax_mono a2 b2))
        (el_yes (hu_val vx vy) va (Rat.le_trans (rmin_l _ _) a1) (Rat.le_trans a2 (rmax_l _ _))) (el_yes (hu_val vx vy) vb (Rat.le_trans (rmin_r _ _) b1) (Rat.le_trans b2 (rmax_r _ _))) awake_any w
    · rw [Bool.not_eq_true] at c2
      rw [c1] at IX
      rw [c2] at IY
      exact elaw_out2 x.1 x.2.1 x.2.2.1 x.2.2.2 y.1 y.2.1 y.2.2.1 y.2.2.2 f g t v IX IY awake_any w
  · rw [Bool.not_eq_true] at c1
    rw [c1] at IX
    exact elaw_out1 x.1 x.2.1 x.2.2.1 x.2.2.2 y.1 y.2.1 y.2.2.1 y.2.2.2 f g t v IX awake_any w
end Go.Proofs.Ytbiegbnncnjnmaa.Iv
