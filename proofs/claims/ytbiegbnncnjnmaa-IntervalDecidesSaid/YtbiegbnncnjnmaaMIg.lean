/- The contracts of the reference of layer 4 (interval): the four products, the four quotients. -/
import Derived.Test.YtbiegbnncnjnmaaMIb
set_option linter.unusedVariables false
set_option linter.unusedSimpArgs false
namespace Go.Proofs.Ytbiegbnncnjnmaa.Iv
open Go.RowKit
open Go.Proofs.Ytbiegbnncnjnmaa.Pro

set_option maxRecDepth 100000 in
set_option maxHeartbeats 4000000 in
theorem idiv4_raw (a b c d p q r s mx0 my0 me0 mx1 my1 me1 mx2 my2 me2 mx3 my3 me3 x0 y0 e0 x1 y1 e1 x2 y2 e2 x3 y3 e3 t1 u1 v1 z1 t2 u2 v2 z2 t3 u3 v3 z3 t4 u4 v4 z4 : Int) (R : Value)
    (R0 : Hid (¬ e0 = 0 → R = .tuple #[.agg #[.int .i64 0, .int .i64 0, .int .i64 0, .int .i64 0], .int .i64 e0])) (R1 : Hid (e0 = 0 → ¬ e1 = 0 → R = .tuple #[.agg #[.int .i64 0, .int .i64 0, .int .i64 0, .int .i64 0], .int .i64 e1])) (R2 : Hid (e0 = 0 → e1 = 0 → ¬ e2 = 0 → R = .tuple #[.agg #[.int .i64 0, .int .i64 0, .int .i64 0, .int .i64 0], .int .i64 e2])) (R3 : Hid (e0 = 0 → e1 = 0 → e2 = 0 → ¬ e3 = 0 → R = .tuple #[.agg #[.int .i64 0, .int .i64 0, .int .i64 0, .int .i64 0], .int .i64 e3]))
    (R4 : Hid (e0 = 0 → e1 = 0 → e2 = 0 → e3 = 0 → R = .tuple #[.agg #[.int .i64 t4, .int .i64 u4, .int .i64 v4, .int .i64 z4], .int .i64 0]))
    (MX0 : Hid (∀ w : World, Calls Try.prog 58 #[.agg #[.int .i64 a, .int .i64 b], .agg #[.int .i64 p, .int .i64 q]] w fun e w' => e = .returned (.tuple #[.agg #[.int .i64 mx0, .int .i64 my0], .int .i64 me0]) ∧ Below w.heap.size w w'))
    (MX1 : Hid (∀ w : World, Calls Try.prog 58 #[.agg #[.int .i64 a, .int .i64 b], .agg #[.int .i64 r, .int .i64 s]] w fun e w' => e = .returned (.tuple #[.agg #[.int .i64 mx1, .int .i64 my1], .int .i64 me1]) ∧ Below w.heap.size w w'))
    (MX2 : Hid (∀ w : World, Calls Try.prog 58 #[.agg #[.int .i64 c, .int .i64 d], .agg #[.int .i64 p, .int .i64 q]] w fun e w' => e = .returned (.tuple #[.agg #[.int .i64 mx2, .int .i64 my2], .int .i64 me2]) ∧ Below w.heap.size w w'))
    (MX3 : Hid (∀ w : World, Calls Try.prog 58 #[.agg #[.int .i64 c, .int .i64 d], .agg #[.int .i64 r, .int .i64 s]] w fun e w' => e = .returned (.tuple #[.agg #[.int .i64 mx3, .int .i64 my3], .int .i64 me3]) ∧ Below w.heap.size w w'))
    (MU0 : Hid (∀ w : World, Calls Try.prog 59 #[.agg #[.int .i64 a, .int .i64 b], .agg #[.int .i64 p, .int .i64 q]] w fun e w' => e = .returned (.tuple #[.agg #[.int .i64 x0, .int .i64 y0], .int .i64 e0]) ∧ Below w.heap.size w w'))
    (MU1 : Hid (∀ w : World, Calls Try.prog 59 #[.agg #[.int .i64 a, .int .i64 b], .agg #[.int .i64 r, .int .i64 s]] w fun e w' => e = .returned (.tuple #[.agg #[.int .i64 x1, .int .i64 y1], .int .i64 e1]) ∧ Below w.heap.size w w'))
    (MU2 : Hid (∀ w : World, Calls Try.prog 59 #[.agg #[.int .i64 c, .int .i64 d], .agg #[.int .i64 p, .int .i64 q]] w fun e w' => e = .returned (.tuple #[.agg #[.int .i64 x2, .int .i64 y2], .int .i64 e2]) ∧ Below w.heap.size w w'))
    (MU3 : Hid (∀ w : World, Calls Try.prog 59 #[.agg #[.int .i64 c, .int .i64 d], .agg #[.int .i64 r, .int .i64 s]] w fun e w' => e = .returned (.tuple #[.agg #[.int .i64 x3, .int .i64 y3], .int .i64 e3]) ∧ Below w.heap.size w w'))
    (WI0 : Hid (∀ w : World, Calls Try.prog 53 #[.agg #[.int .i64 x0, .int .i64 y0, .int .i64 x0, .int .i64 y0], .agg #[.int .i64 x0, .int .i64 y0]] w fun e w' => e = .returned (.agg #[.int .i64 t1, .int .i64 u1, .int .i64 v1, .int .i64 z1]) ∧ Below w.heap.size w w'))
    (WI1 : Hid (∀ w : World, Calls Try.prog 53 #[.agg #[.int .i64 t1, .int .i64 u1, .int .i64 v1, .int .i64 z1], .agg #[.int .i64 x1, .int .i64 y1]] w fun e w' => e = .returned (.agg #[.int .i64 t2, .int .i64 u2, .int .i64 v2, .int .i64 z2]) ∧ Below w.heap.size w w'))
    (WI2 : Hid (∀ w : World, Calls Try.prog 53 #[.agg #[.int .i64 t2, .int .i64 u2, .int .i64 v2, .int .i64 z2], .agg #[.int .i64 x2, .int .i64 y2]] w fun e w' => e = .returned (.agg #[.int .i64 t3, .int .i64 u3, .int .i64 v3, .int .i64 z3]) ∧ Below w.heap.size w w'))
    (WI3 : Hid (∀ w : World, Calls Try.prog 53 #[.agg #[.int .i64 t3, .int .i64 u3, .int .i64 v3, .int .i64 z3], .agg #[.int .i64 x3, .int .i64 y3]] w fun e w' => e = .returned (.agg #[.int .i64 t4, .int .i64 u4, .int .i64 v4, .int .i64 z4]) ∧ Below w.heap.size w w'))
    (w : World) : Calls Try.prog 73 #[.agg #[.int .i64 a, .int .i64 b, .int .i64 c, .int .i64 d], .agg #[.int .i64 p, .int .i64 q, .int .i64 r, .int .i64 s], .bool true] w fun e w' => e = .returned (R) ∧ Below w.heap.size w w' := by
  have T0 : Hid (Has w [(w.heap.size + 1 + 1 + 1, #[.int .i64 0, .int .i64 0, .int .i64 0, .int .i64 0], 25), (w.heap.size + 1 + 1, #[.int .i64 0, .int .i64 0, .int .i64 0, .int .i64 0], 25), (w.heap.size + 1, #[.int .i64 p, .int .i64 q, .int .i64 r, .int .i64 s], 25), (w.heap.size, #[.int .i64 a, .int .i64 b, .int .i64 c, .int .i64 d], 25)] ((((w.alloc (.cells #[.int .i64 a, .int .i64 b, .int .i64 c, .int .i64 d] 25)).alloc (.cells #[.int .i64 p, .int .i64 q, .int .i64 r, .int .i64 s] 25)).alloc (.cells #[.int .i64 0, .int .i64 0, .int .i64 0, .int .i64 0] 25)).alloc (.cells #[.int .i64 0, .int .i64 0, .int .i64 0, .int .i64 0] 25))) := by
    have h := ((three0 w #[.int .i64 a, .int .i64 b, .int .i64 c, .int .i64 d] #[.int .i64 p, .int .i64 q, .int .i64 r, .int .i64 s] #[.int .i64 0, .int .i64 0, .int .i64 0, .int .i64 0] 25 25 25).alloc #[.int .i64 0, .int .i64 0, .int .i64 0, .int .i64 0] 25)
    simp only [World.size_alloc] at h
    exact Lib.hid h
  go_enter Try.func73, Try.ntmps73
  go_upto_region 2 with fail
  generalize (((w.alloc (.cells #[.int .i64 a, .int .i64 b, .int .i64 c, .int .i64 d] 25)).alloc (.cells #[.int .i64 p, .int .i64 q, .int .i64 r, .int .i64 s] 25)).alloc (.cells #[.int .i64 0, .int .i64 0, .int .i64 0, .int .i64 0] 25)).alloc (.cells #[.int .i64 0, .int .i64 0, .int .i64 0, .int .i64 0] 25) = W0 at *
  go_wp2_with fail
  go_loopw [9] (fun vi wr => (vi = .int .i64 0 ∧ Hid (Has w [(w.heap.size + 1 + 1 + 1, #[.int .i64 0, .int .i64 0, .int .i64 0, .int .i64 0], 25), (w.heap.size + 1 + 1, #[.int .i64 0, .int .i64 0, .int .i64 0, .int .i64 0], 25), (w.heap.size + 1, #[.int .i64 p, .int .i64 q, .int .i64 r, .int .i64 s], 25), (w.heap.size, #[.int .i64 a, .int .i64 b, .int .i64 c, .int .i64 d], 25)] wr)) ∨ (vi = .int .i64 1 ∧ Hid (e0 = 0 ∧ Has w [(w.heap.size + 1 + 1 + 1, #[.int .i64 t1, .int .i64 u1, .int .i64 v1, .int .i64 z1], 25), (w.heap.size + 1 + 1, #[.int .i64 0, .int .i64 0, .int .i64 0, .int .i64 0], 25), (w.heap.size + 1, #[.int .i64 p, .int .i64 q, .int .i64 r, .int .i64 s], 25), (w.heap.size, #[.int .i64 a, .int .i64 b, .int .i64 c, .int .i64 d], 25)] wr)) ∨ (vi = .int .i64 2 ∧ Hid (e0 = 0 ∧ e1 = 0 ∧ Has w [(w.heap.size + 1 + 1 + 1, #[.int .i64 t2, .int .i64 u2, .int .i64 v2, .int .i64 z2], 25), (w.heap.size + 1 + 1, #[.int .i64 0, .int .i64 0, .int .i64 0, .int .i64 0], 25), (w.heap.size + 1, #[.int .i64 p, .int .i64 q, .int .i64 r, .int .i64 s], 25), (w.heap.size, #[.int .i64 a, .int .i64 b, .int .i64 c, .int .i64 d], 25)] wr)) ∨ (vi = .int .i64 3 ∧ Hid (e0 = 0 ∧ e1 = 0 ∧ e2 = 0 ∧ Has w [(w.heap.size + 1 + 1 + 1, #[.int .i64 t3, .int .i64 u3, .int .i64 v3, .int .i64 z3], 25), (w.heap.size + 1 + 1, #[.int .i64 0, .int .i64 0, .int .i64 0, .int .i64 0], 25), (w.heap.size + 1, #[.int .i64 p, .int .i64 q, .int .i64 r, .int .i64 s], 25), (w.heap.size, #[.int .i64 a, .int .i64 b, .int .i64 c, .int .i64 d], 25)] wr)) ∨ (vi = .int .i64 4 ∧ Hid (e0 = 0 ∧ e1 = 0 ∧ e2 = 0 ∧ e3 = 0 ∧ Has w [(w.heap.size + 1 + 1 + 1, #[.int .i64 t4, .int .i64 u4, .int .i64 v4, .int .i64 z4], 25), (w.heap.size + 1 + 1, #[.int .i64 0, .int .i64 0, .int .i64 0, .int .i64 0], 25), (w.heap.size + 1, #[.int .i64 p, .int .i64 q, .int .i64 r, .int .i64 s], 25), (w.heap.size, #[.int .i64 a, .int .i64 b, .int .i64 c, .int .i64 d], 25)] wr))) (fun vi _ => (4 - intOf vi).toNat)
  case atStart => exact Or.inl ⟨rfl, T0⟩
  case round =>
    clear T0
    rcases hrel with ⟨rfl, H⟩ | ⟨rfl, H⟩ | ⟨rfl, H⟩ | ⟨rfl, H⟩ | ⟨rfl, H⟩
    · skip
      have T1 := Lib.hid (H.out)
      go_upto_region 5 with fail
      go_cut [10, 11] (fun sa sb wx => ∃ g10 g11 : Nat, sa = .pointer (some ⟨g10, 0, none⟩) ∧ sb = .pointer (some ⟨g11, 0, none⟩) ∧ w.heap.size + 1 + 1 + 1 < g10 ∧ w.heap.size + 1 + 1 + 1 < g11 ∧ g10 ≠ g11 ∧ Has w [(g10, #[.int .i64 a, .int .i64 b], 23), (g11, #[.int .i64 p, .int .i64 q], 23), (w.heap.size + 1 + 1 + 1, #[.int .i64 0, .int .i64 0, .int .i64 0, .int .i64 0], 25), (w.heap.size + 1 + 1, #[.int .i64 0, .int .i64 0, .int .i64 0, .int .i64 0], 25), (w.heap.size + 1, #[.int .i64 p, .int .i64 q, .int .i64 r, .int .i64 s], 25), (w.heap.size, #[.int .i64 a, .int .i64 b, .int .i64 c, .int .i64 d], 25)] wx)
      case first =>
        have F0 := Lib.hid T1.out.drew
        refine wp_region_held_drew (S := (fun V => XY w a b c d p q r s V ∧ (V.cell? ⟨w.heap.size, 0, none⟩ = some (.int .i64 a) ∧ V.cell? ⟨w.heap.size, 1, none⟩ = some (.int .i64 b) ∧ V.cell? ⟨w.heap.size, 2, none⟩ = some (.int .i64 c) ∧ V.cell? ⟨w.heap.size, 3, none⟩ = some (.int .i64 d)) ∧ V.cell? ⟨w.heap.size + 1, 0, none⟩ = some (.int .i64 p) ∧ V.cell? ⟨w.heap.size + 1, 1, none⟩ = some (.int .i64 q) ∧ V.cell? ⟨w.heap.size + 1, 2, none⟩ = some (.int .i64 r) ∧ V.cell? ⟨w.heap.size + 1, 3, none⟩ = some (.int .i64 s))) (by kernel_rfl) (XY.all (Has.xy F0.out (by simp))) (fun hHeld => ?_)
        generalize wr.drew = vw0 at *
        refine wpAnyH_take (i := 0) (v := _) rfl (by kernel_rfl) (by kernel_rfl) (by kernel_rfl) (fun _ _ _ h => h) (Or.inl ⟨by rfl, by intro w hSw; (try dsimp only at hSw); go_simp; try (with_reducible rfl)⟩) (by assumption) ?_
        try simp only [Act.put, List.setIfInBounds_toArray, List.set_cons_zero, List.set_cons_succ]
        refine wpAnyH_take (i := 1) (v := _) rfl (by kernel_rfl) (by kernel_rfl) (by kernel_rfl) (fun _ _ _ h => h) (Or.inl ⟨by rfl, by intro w hSw; (try dsimp only at hSw); go_simp; try (with_reducible rfl)⟩) (by assumption) ?_
        try simp only [Act.put, List.setIfInBounds_toArray, List.set_cons_zero, List.set_cons_succ]
        refine wpAnyH_take (i := 2) (v := _) rfl (by kernel_rfl) (by kernel_rfl) (by kernel_rfl) (fun _ _ _ h => h) (Or.inl ⟨by rfl, by intro w hSw; (try dsimp only at hSw); go_simp; try (with_reducible rfl)⟩) (by assumption) ?_
        try simp only [Act.put, List.setIfInBounds_toArray, List.set_cons_zero, List.set_cons_succ]
        refine wpAnyH_take (i := 3) (v := _) rfl (by kernel_rfl) (by kernel_rfl) (by kernel_rfl) (fun _ _ _ h => h) (Or.inl ⟨by rfl, by intro w hSw; (try dsimp only at hSw); go_simp; try (with_reducible rfl)⟩) (by assumption) ?_
        try simp only [Act.put, List.setIfInBounds_toArray, List.set_cons_zero, List.set_cons_succ]
        refine wpAnyH_ready (rs := [4, 5]) (by kernel_rfl) (by simp) ?_
        refine (AllReadyH.cons rfl (fun K hK => ?_) (AllReadyH.cons rfl (fun K hK => ?_) AllReadyH.nil))
        · skip
          go_simp
          have F1 := Lib.hid (F0.out.alloc #[.int .i64 0, .int .i64 0] 23)
          have lt10 : w.heap.size + 1 + 1 + 1 < vw0.heap.size := Has.lt (x := (w.heap.size + 1 + 1 + 1, #[.int .i64 0, .int .i64 0, .int .i64 0, .int .i64 0], 25)) F0.out (by simp)
          refine hK.out _ _ (XY.all (Has.xy F1.out (by simp))) (fun hHeld => ?_)
          clear hK K
          try simp only [Act.put, List.setIfInBounds_toArray, List.set_cons_zero, List.set_cons_succ]
          generalize vw0.alloc (.cells #[.int .i64 0, .int .i64 0] 23) = vw1 at *
          generalize vw0.heap.size = g10 at *
          refine wpAnyH_ready (rs := [5]) (by kernel_rfl) (by simp) ?_
          refine (AllReadyH.cons rfl (fun K hK => ?_) AllReadyH.nil)
          go_simp
          have F2 := Lib.hid (F1.out.alloc #[.int .i64 0, .int .i64 0] 23)
          have lt11 : w.heap.size + 1 + 1 + 1 < vw1.heap.size := Has.lt (x := (w.heap.size + 1 + 1 + 1, #[.int .i64 0, .int .i64 0, .int .i64 0, .int .i64 0], 25)) F1.out (by simp)
          have ne11 : g10 < vw1.heap.size := Has.lt (x := (g10, #[.int .i64 0, .int .i64 0], 23)) F1.out (by simp)
          refine hK.out _ _ (XY.all (Has.xy F2.out (by simp))) (fun hHeld => ?_)
          clear hK K
          try simp only [Act.put, List.setIfInBounds_toArray, List.set_cons_zero, List.set_cons_succ]
          generalize vw1.alloc (.cells #[.int .i64 0, .int .i64 0] 23) = vw2 at *
          generalize vw1.heap.size = g11 at *
          refine wpAnyH_ready (rs := [6]) (by kernel_rfl) (by simp) ?_
          refine (AllReadyH.cons rfl (fun K hK => ?_) AllReadyH.nil)
          obtain ⟨k0, k1, k4⟩ := Has.c2 (g := g10) (x := .int .i64 0) (y := .int .i64 0) (t := 23) F2.out (by simp)
          obtain ⟨k5, k6⟩ := frozen2 (F2.out.row (b := g10) (cs := #[.int .i64 0, .int .i64 0]) (t := 23) (by simp))
          go_simp
          have F3 := Lib.hid (Has.put2 (g := g10) (x := .int .i64 0) (y := .int .i64 0) (t := 23) (M := [(g11, #[.int .i64 0, .int .i64 0], 23), (w.heap.size + 1 + 1 + 1, #[.int .i64 0, .int .i64 0, .int .i64 0, .int .i64 0], 25), (w.heap.size + 1 + 1, #[.int .i64 0, .int .i64 0, .int .i64 0, .int .i64 0], 25), (w.heap.size + 1, #[.int .i64 p, .int .i64 q, .int .i64 r, .int .i64 s], 25), (w.heap.size, #[.int .i64 a, .int .i64 b, .int .i64 c, .int .i64 d], 25)]) F2.out (.int .i64 a) (.int .i64 b) (by simp) (by simp <;> omega))
          refine hK.out _ _ (XY.all (Has.xy F3.out (by simp))) (fun hHeld => ?_)
          clear hK K k0 k1 k4 k5 k6
          try simp only [Act.put, List.setIfInBounds_toArray, List.set_cons_zero, List.set_cons_succ]
          generalize (vw2.setCell ⟨g10, 0, none⟩ (.int .i64 a)).setCell ⟨g10, 1, none⟩ (.int .i64 b) = vw3 at *
          refine wpAnyH_ready (rs := [7]) (by kernel_rfl) (by simp) ?_
          refine (AllReadyH.cons rfl (fun K hK => ?_) AllReadyH.nil)
          obtain ⟨k0, k1, k4⟩ := Has.c2 (g := g11) (x := .int .i64 0) (y := .int .i64 0) (t := 23) F3.out (by simp)
          obtain ⟨k5, k6⟩ := frozen2 (F3.out.row (b := g11) (cs := #[.int .i64 0, .int .i64 0]) (t := 23) (by simp))
          go_simp
          have F4 := Lib.hid (Has.put2 (g := g11) (x := .int .i64 0) (y := .int .i64 0) (t := 23) (M := [(g10, #[.int .i64 a, .int .i64 b], 23), (w.heap.size + 1 + 1 + 1, #[.int .i64 0, .int .i64 0, .int .i64 0, .int .i64 0], 25), (w.heap.size + 1 + 1, #[.int .i64 0, .int .i64 0, .int .i64 0, .int .i64 0], 25), (w.heap.size + 1, #[.int .i64 p, .int .i64 q, .int .i64 r, .int .i64 s], 25), (w.heap.size, #[.int .i64 a, .int .i64 b, .int .i64 c, .int .i64 d], 25)]) F3.out (.int .i64 p) (.int .i64 q) (by simp) (by simp <;> omega))
          refine hK.out _ _ (XY.all (Has.xy F4.out (by simp))) (fun hHeld => ?_)
          clear hK K k0 k1 k4 k5 k6
          try simp only [Act.put, List.setIfInBounds_toArray, List.set_cons_zero, List.set_cons_succ]
          generalize (vw3.setCell ⟨g11, 0, none⟩ (.int .i64 p)).setCell ⟨g11, 1, none⟩ (.int .i64 q) = vw4 at *
          refine wpAnyH_done (by kernel_rfl) ?_ _
          go_wp2
          go_meet
          exact ⟨_, _, rfl, rfl, by omega, by omega, by omega, F4.out.sub (by intro x hx; simp only [List.mem_cons, List.not_mem_nil, or_false] at hx ⊢; rcases hx with h | h | h | h | h | h <;> simp [h])⟩
        · skip
          go_simp
          have F1 := Lib.hid (F0.out.alloc #[.int .i64 0, .int .i64 0] 23)
          have lt11 : w.heap.size + 1 + 1 + 1 < vw0.heap.size := Has.lt (x := (w.heap.size + 1 + 1 + 1, #[.int .i64 0, .int .i64 0, .int .i64 0, .int .i64 0], 25)) F0.out (by simp)
          refine hK.out _ _ (XY.all (Has.xy F1.out (by simp))) (fun hHeld => ?_)
          clear hK K
          try simp only [Act.put, List.setIfInBounds_toArray, List.set_cons_zero, List.set_cons_succ]
          generalize vw0.alloc (.cells #[.int .i64 0, .int .i64 0] 23) = vw1 at *
          generalize vw0.heap.size = g11 at *
          refine wpAnyH_ready (rs := [4]) (by kernel_rfl) (by simp) ?_
          refine (AllReadyH.cons rfl (fun K hK => ?_) AllReadyH.nil)
          go_simp
          have F2 := Lib.hid (F1.out.alloc #[.int .i64 0, .int .i64 0] 23)
          have lt10 : w.heap.size + 1 + 1 + 1 < vw1.heap.size := Has.lt (x := (w.heap.size + 1 + 1 + 1, #[.int .i64 0, .int .i64 0, .int .i64 0, .int .i64 0], 25)) F1.out (by simp)
          have ne10 : g11 < vw1.heap.size := Has.lt (x := (g11, #[.int .i64 0, .int .i64 0], 23)) F1.out (by simp)
          refine hK.out _ _ (XY.all (Has.xy F2.out (by simp))) (fun hHeld => ?_)
          clear hK K
          try simp only [Act.put, List.setIfInBounds_toArray, List.set_cons_zero, List.set_cons_succ]
          generalize vw1.alloc (.cells #[.int .i64 0, .int .i64 0] 23) = vw2 at *
          generalize vw1.heap.size = g10 at *
          refine wpAnyH_ready (rs := [6]) (by kernel_rfl) (by simp) ?_
          refine (AllReadyH.cons rfl (fun K hK => ?_) AllReadyH.nil)
          obtain ⟨k0, k1, k4⟩ := Has.c2 (g := g10) (x := .int .i64 0) (y := .int .i64 0) (t := 23) F2.out (by simp)
          obtain ⟨k5, k6⟩ := frozen2 (F2.out.row (b := g10) (cs := #[.int .i64 0, .int .i64 0]) (t := 23) (by simp))
          go_simp
          have F3 := Lib.hid (Has.put2 (g := g10) (x := .int .i64 0) (y := .int .i64 0) (t := 23) (M := [(g11, #[.int .i64 0, .int .i64 0], 23), (w.heap.size + 1 + 1 + 1, #[.int .i64 0, .int .i64 0, .int .i64 0, .int .i64 0], 25), (w.heap.size + 1 + 1, #[.int .i64 0, .int .i64 0, .int .i64 0, .int .i64 0], 25), (w.heap.size + 1, #[.int .i64 p, .int .i64 q, .int .i64 r, .int .i64 s], 25), (w.heap.size, #[.int .i64 a, .int .i64 b, .int .i64 c, .int .i64 d], 25)]) F2.out (.int .i64 a) (.int .i64 b) (by simp) (by simp <;> omega))
          refine hK.out _ _ (XY.all (Has.xy F3.out (by simp))) (fun hHeld => ?_)
          clear hK K k0 k1 k4 k5 k6
          try simp only [Act.put, List.setIfInBounds_toArray, List.set_cons_zero, List.set_cons_succ]
          generalize (vw2.setCell ⟨g10, 0, none⟩ (.int .i64 a)).setCell ⟨g10, 1, none⟩ (.int .i64 b) = vw3 at *
          refine wpAnyH_ready (rs := [7]) (by kernel_rfl) (by simp) ?_
          refine (AllReadyH.cons rfl (fun K hK => ?_) AllReadyH.nil)
          obtain ⟨k0, k1, k4⟩ := Has.c2 (g := g11) (x := .int .i64 0) (y := .int .i64 0) (t := 23) F3.out (by simp)
          obtain ⟨k5, k6⟩ := frozen2 (F3.out.row (b := g11) (cs := #[.int .i64 0, .int .i64 0]) (t := 23) (by simp))
          go_simp
          have F4 := Lib.hid (Has.put2 (g := g11) (x := .int .i64 0) (y := .int .i64 0) (t := 23) (M := [(g10, #[.int .i64 a, .int .i64 b], 23), (w.heap.size + 1 + 1 + 1, #[.int .i64 0, .int .i64 0, .int .i64 0, .int .i64 0], 25), (w.heap.size + 1 + 1, #[.int .i64 0, .int .i64 0, .int .i64 0, .int .i64 0], 25), (w.heap.size + 1, #[.int .i64 p, .int .i64 q, .int .i64 r, .int .i64 s], 25), (w.heap.size, #[.int .i64 a, .int .i64 b, .int .i64 c, .int .i64 d], 25)]) F3.out (.int .i64 p) (.int .i64 q) (by simp) (by simp <;> omega))
          refine hK.out _ _ (XY.all (Has.xy F4.out (by simp))) (fun hHeld => ?_)
          clear hK K k0 k1 k4 k5 k6
          try simp only [Act.put, List.setIfInBounds_toArray, List.set_cons_zero, List.set_cons_succ]
          generalize (vw3.setCell ⟨g11, 0, none⟩ (.int .i64 p)).setCell ⟨g11, 1, none⟩ (.int .i64 q) = vw4 at *
          refine wpAnyH_done (by kernel_rfl) ?_ _
          go_wp2
          go_meet
          exact ⟨_, _, rfl, rfl, by omega, by omega, by omega, F4.out.sub (by intro x hx; simp only [List.mem_cons, List.not_mem_nil, or_false] at hx ⊢; rcases hx with h | h | h | h | h | h <;> simp [h])⟩
      case rest =>
        obtain ⟨g10, g11, rfl, rfl, l10, l11, ne, hT⟩ := hcut
        have T2 := Lib.hid hT
        clear hT T1
        obtain ⟨m0, m1, m4⟩ := Has.c2 (g := g10) (x := .int .i64 a) (y := .int .i64 b) (t := 23) T2.out (by simp)
        obtain ⟨n0, n1, n4⟩ := Has.c2 (g := g11) (x := .int .i64 p) (y := .int .i64 q) (t := 23) T2.out (by simp)
        go_wp2_with fail
        with_reducible refine ((MX0.out) _).mono ?_
        rintro e w4 ⟨rfl, hb⟩
        have TA := Lib.hid ((T2.out.step hb).alloc #[.int .i64 mx0, .int .i64 my0] 23)
        have l12 : w.heap.size + 1 + 1 + 1 < w4.heap.size := Has.lt (x := (w.heap.size + 1 + 1 + 1, #[.int .i64 0, .int .i64 0, .int .i64 0, .int .i64 0], 25)) (T2.out.step hb) (by simp)
        clear hb T2 m0 m1 m4 n0 n1 n4
        go_upto_region 12 with fail
        generalize w4.alloc (.cells #[.int .i64 mx0, .int .i64 my0] 23) = yy6 at *
        generalize w4.heap.size = g12 at *
        obtain ⟨m0, m1, m4⟩ := Has.c2 (g := g10) (x := .int .i64 a) (y := .int .i64 b) (t := 23) TA.out (by simp)
        obtain ⟨n0, n1, n4⟩ := Has.c2 (g := g11) (x := .int .i64 p) (y := .int .i64 q) (t := 23) TA.out (by simp)
        go_wp2_with fail
        with_reducible refine ((MU0.out) _).mono ?_
        rintro e w5 ⟨rfl, hb⟩
        have TB := Lib.hid (TA.out.step hb)
        clear hb TA m0 m1 m4 n0 n1 n4
        obtain ⟨m0, m1, m4⟩ := Has.c2 (g := g12) (x := .int .i64 mx0) (y := .int .i64 my0) (t := 23) TB.out (by simp)
        obtain ⟨m5, m6⟩ := frozen2 (TB.out.row (b := g12) (cs := #[.int .i64 mx0, .int .i64 my0]) (t := 23) (by simp))
        have T5 := Lib.hid (Has.put2 (g := g12) (x := .int .i64 mx0) (y := .int .i64 my0) (t := 23) (M := [(w.heap.size + 1 + 1 + 1, #[.int .i64 0, .int .i64 0, .int .i64 0, .int .i64 0], 25), (w.heap.size + 1 + 1, #[.int .i64 0, .int .i64 0, .int .i64 0, .int .i64 0], 25), (w.heap.size + 1, #[.int .i64 p, .int .i64 q, .int .i64 r, .int .i64 s], 25), (w.heap.size, #[.int .i64 a, .int .i64 b, .int .i64 c, .int .i64 d], 25)]) TB.out (.int .i64 x0) (.int .i64 y0) (by simp) (by simp <;> omega))
        go_upto_region 13 with fail
        generalize (w5.setCell ⟨g12, 0, none⟩ (.int .i64 x0)).setCell ⟨g12, 1, none⟩ (.int .i64 y0) = yy5 at *
        clear TB m0 m1 m4 m5 m6
        by_cases he : e0 = 0
        · subst he
          obtain ⟨m0, m1, m4⟩ := Has.c2 (g := g12) (x := .int .i64 x0) (y := .int .i64 y0) (t := 23) T5.out (by simp)
          go_wp2_with fail
          with_reducible refine (ipoint_raw _ _ _).mono ?_
          rintro e w6 ⟨rfl, hb⟩
          have T6 := Lib.hid (T5.out.step hb)
          clear hb T5 m0 m1 m4
          obtain ⟨h0, h1, h2, h3, h4⟩ := Has.c4 (g := w.heap.size + 1 + 1 + 1) (x := .int .i64 0) (y := .int .i64 0) (z := .int .i64 0) (u := .int .i64 0) (t := 25) T6.out (by simp)
          obtain ⟨h5, h6, h7, h8⟩ := Has.f4 (g := w.heap.size + 1 + 1 + 1) (cs := #[.int .i64 0, .int .i64 0, .int .i64 0, .int .i64 0]) (t := 25) T6.out (by simp)
          have T7 := Lib.hid (Has.put4 (g := w.heap.size + 1 + 1 + 1) (x := .int .i64 0) (y := .int .i64 0) (z := .int .i64 0) (u := .int .i64 0) (t := 25) (M := [(g12, #[.int .i64 x0, .int .i64 y0], 23), (w.heap.size + 1 + 1, #[.int .i64 0, .int .i64 0, .int .i64 0, .int .i64 0], 25), (w.heap.size + 1, #[.int .i64 p, .int .i64 q, .int .i64 r, .int .i64 s], 25), (w.heap.size, #[.int .i64 a, .int .i64 b, .int .i64 c, .int .i64 d], 25)]) T6.out (.int .i64 x0) (.int .i64 y0) (.int .i64 x0) (.int .i64 y0) (by simp) (by simp <;> omega))
          go_upto_region 17 with fail
          generalize (((w6.setCell ⟨w.heap.size + 1 + 1 + 1, 0, none⟩ (.int .i64 x0)).setCell ⟨w.heap.size + 1 + 1 + 1, 1, none⟩ (.int .i64 y0)).setCell ⟨w.heap.size + 1 + 1 + 1, 2, none⟩ (.int .i64 x0)).setCell ⟨w.heap.size + 1 + 1 + 1, 3, none⟩ (.int .i64 y0) = yy7 at *
          clear T6 h0 h1 h2 h3 h4 h5 h6 h7 h8
          obtain ⟨h0, h1, h2, h3, h4⟩ := Has.c4 (g := w.heap.size + 1 + 1 + 1) (x := .int .i64 x0) (y := .int .i64 y0) (z := .int .i64 x0) (u := .int .i64 y0) (t := 25) T7.out (by simp)
          obtain ⟨m0, m1, m4⟩ := Has.c2 (g := g12) (x := .int .i64 x0) (y := .int .i64 y0) (t := 23) T7.out (by simp)
          go_wp2_with fail
          with_reducible refine ((WI0.out) _).mono ?_
          rintro e w8 ⟨rfl, hb⟩
          have T8 := Lib.hid (T7.out.step hb)
          clear hb T7 h0 h1 h2 h3 h4 m0 m1 m4
          obtain ⟨h0, h1, h2, h3, h4⟩ := Has.c4 (g := w.heap.size + 1 + 1 + 1) (x := .int .i64 x0) (y := .int .i64 y0) (z := .int .i64 x0) (u := .int .i64 y0) (t := 25) T8.out (by simp)
          obtain ⟨h5, h6, h7, h8⟩ := Has.f4 (g := w.heap.size + 1 + 1 + 1) (cs := #[.int .i64 x0, .int .i64 y0, .int .i64 x0, .int .i64 y0]) (t := 25) T8.out (by simp)
          have T9 := Lib.hid (Has.put4 (g := w.heap.size + 1 + 1 + 1) (x := .int .i64 x0) (y := .int .i64 y0) (z := .int .i64 x0) (u := .int .i64 y0) (t := 25) (M := [(g12, #[.int .i64 x0, .int .i64 y0], 23), (w.heap.size + 1 + 1, #[.int .i64 0, .int .i64 0, .int .i64 0, .int .i64 0], 25), (w.heap.size + 1, #[.int .i64 p, .int .i64 q, .int .i64 r, .int .i64 s], 25), (w.heap.size, #[.int .i64 a, .int .i64 b, .int .i64 c, .int .i64 d], 25)]) T8.out (.int .i64 t1) (.int .i64 u1) (.int .i64 v1) (.int .i64 z1) (by simp) (by simp <;> omega))
          go_wp2
          go_roundw
          case rel => exact Or.inr (Or.inl ⟨(by first | rfl | trivial), (by first | rfl | trivial), T9.out.sub (by intro x hx; simp only [List.mem_cons, List.not_mem_nil, or_false] at hx ⊢; rcases hx with h | h | h | h <;> simp [h])⟩)
          case measure => simp [intOf]
        · have RR := R0.out  he
          obtain ⟨k0, k1, k2, k3, k4⟩ := Has.c4 (g := w.heap.size + 1 + 1) (x := .int .i64 0) (y := .int .i64 0) (z := .int .i64 0) (u := .int .i64 0) (t := 25) T5.out (by simp)
          obtain ⟨k5, k6, k7, k8⟩ := Has.f4 (g := w.heap.size + 1 + 1) (cs := #[.int .i64 0, .int .i64 0, .int .i64 0, .int .i64 0]) (t := 25) T5.out (by simp)
          have T6 := Lib.hid (Has.put4 (g := w.heap.size + 1 + 1) (x := .int .i64 0) (y := .int .i64 0) (z := .int .i64 0) (u := .int .i64 0) (t := 25) (M := [(w.heap.size + 1 + 1 + 1, #[.int .i64 0, .int .i64 0, .int .i64 0, .int .i64 0], 25), (w.heap.size + 1, #[.int .i64 p, .int .i64 q, .int .i64 r, .int .i64 s], 25), (w.heap.size, #[.int .i64 a, .int .i64 b, .int .i64 c, .int .i64 d], 25)]) T5.out (.int .i64 0) (.int .i64 0) (.int .i64 0) (.int .i64 0) (by simp) (by simp <;> omega))
          go_wp2
          refine bodyPost_ret (res_cell_tmp rfl _ _ (w.heap.size + 1 + 1) 25 #[.int .i64 0, .int .i64 0, .int .i64 0, .int .i64 0] (0, 0) _ rfl (T6.out.row (by simp)) Try.underlying25 rfl info25) rfl ?_
          exact ⟨by rw [RR]; first | done | rfl, T6.out.1⟩
    · skip
      have T1 := Lib.hid (H.out.2)
      go_upto_region 5 with fail
      go_cut [10, 11] (fun sa sb wx => ∃ g10 g11 : Nat, sa = .pointer (some ⟨g10, 0, none⟩) ∧ sb = .pointer (some ⟨g11, 0, none⟩) ∧ w.heap.size + 1 + 1 + 1 < g10 ∧ w.heap.size + 1 + 1 + 1 < g11 ∧ g10 ≠ g11 ∧ Has w [(g10, #[.int .i64 a, .int .i64 b], 23), (g11, #[.int .i64 p, .int .i64 q], 23), (w.heap.size + 1 + 1 + 1, #[.int .i64 t1, .int .i64 u1, .int .i64 v1, .int .i64 z1], 25), (w.heap.size + 1 + 1, #[.int .i64 0, .int .i64 0, .int .i64 0, .int .i64 0], 25), (w.heap.size + 1, #[.int .i64 p, .int .i64 q, .int .i64 r, .int .i64 s], 25), (w.heap.size, #[.int .i64 a, .int .i64 b, .int .i64 c, .int .i64 d], 25)] wx)
      case first =>
        have F0 := Lib.hid T1.out.drew
        refine wp_region_held_drew (S := (fun V => XY w a b c d p q r s V ∧ (V.cell? ⟨w.heap.size, 0, none⟩ = some (.int .i64 a) ∧ V.cell? ⟨w.heap.size, 1, none⟩ = some (.int .i64 b) ∧ V.cell? ⟨w.heap.size, 2, none⟩ = some (.int .i64 c) ∧ V.cell? ⟨w.heap.size, 3, none⟩ = some (.int .i64 d)) ∧ V.cell? ⟨w.heap.size + 1, 0, none⟩ = some (.int .i64 p) ∧ V.cell? ⟨w.heap.size + 1, 1, none⟩ = some (.int .i64 q) ∧ V.cell? ⟨w.heap.size + 1, 2, none⟩ = some (.int .i64 r) ∧ V.cell? ⟨w.heap.size + 1, 3, none⟩ = some (.int .i64 s))) (by kernel_rfl) (XY.all (Has.xy F0.out (by simp))) (fun hHeld => ?_)
        generalize wr.drew = vw0 at *
        refine wpAnyH_take (i := 0) (v := _) rfl (by kernel_rfl) (by kernel_rfl) (by kernel_rfl) (fun _ _ _ h => h) (Or.inl ⟨by rfl, by intro w hSw; (try dsimp only at hSw); go_simp; try (with_reducible rfl)⟩) (by assumption) ?_
        try simp only [Act.put, List.setIfInBounds_toArray, List.set_cons_zero, List.set_cons_succ]
        refine wpAnyH_take (i := 1) (v := _) rfl (by kernel_rfl) (by kernel_rfl) (by kernel_rfl) (fun _ _ _ h => h) (Or.inl ⟨by rfl, by intro w hSw; (try dsimp only at hSw); go_simp; try (with_reducible rfl)⟩) (by assumption) ?_
        try simp only [Act.put, List.setIfInBounds_toArray, List.set_cons_zero, List.set_cons_succ]
        refine wpAnyH_take (i := 2) (v := _) rfl (by kernel_rfl) (by kernel_rfl) (by kernel_rfl) (fun _ _ _ h => h) (Or.inl ⟨by rfl, by intro w hSw; (try dsimp only at hSw); go_simp; try (with_reducible rfl)⟩) (by assumption) ?_
        try simp only [Act.put, List.setIfInBounds_toArray, List.set_cons_zero, List.set_cons_succ]
        refine wpAnyH_take (i := 3) (v := _) rfl (by kernel_rfl) (by kernel_rfl) (by kernel_rfl) (fun _ _ _ h => h) (Or.inl ⟨by rfl, by intro w hSw; (try dsimp only at hSw); go_simp; try (with_reducible rfl)⟩) (by assumption) ?_
        try simp only [Act.put, List.setIfInBounds_toArray, List.set_cons_zero, List.set_cons_succ]
        refine wpAnyH_ready (rs := [4, 5]) (by kernel_rfl) (by simp) ?_
        refine (AllReadyH.cons rfl (fun K hK => ?_) (AllReadyH.cons rfl (fun K hK => ?_) AllReadyH.nil))
        · skip
          go_simp
          have F1 := Lib.hid (F0.out.alloc #[.int .i64 0, .int .i64 0] 23)
          have lt10 : w.heap.size + 1 + 1 + 1 < vw0.heap.size := Has.lt (x := (w.heap.size + 1 + 1 + 1, #[.int .i64 t1, .int .i64 u1, .int .i64 v1, .int .i64 z1], 25)) F0.out (by simp)
          refine hK.out _ _ (XY.all (Has.xy F1.out (by simp))) (fun hHeld => ?_)
          clear hK K
          try simp only [Act.put, List.setIfInBounds_toArray, List.set_cons_zero, List.set_cons_succ]
          generalize vw0.alloc (.cells #[.int .i64 0, .int .i64 0] 23) = vw1 at *
          generalize vw0.heap.size = g10 at *
          refine wpAnyH_ready (rs := [5]) (by kernel_rfl) (by simp) ?_
          refine (AllReadyH.cons rfl (fun K hK => ?_) AllReadyH.nil)
          go_simp
          have F2 := Lib.hid (F1.out.alloc #[.int .i64 0, .int .i64 0] 23)
          have lt11 : w.heap.size + 1 + 1 + 1 < vw1.heap.size := Has.lt (x := (w.heap.size + 1 + 1 + 1, #[.int .i64 t1, .int .i64 u1, .int .i64 v1, .int .i64 z1], 25)) F1.out (by simp)
          have ne11 : g10 < vw1.heap.size := Has.lt (x := (g10, #[.int .i64 0, .int .i64 0], 23)) F1.out (by simp)
          refine hK.out _ _ (XY.all (Has.xy F2.out (by simp))) (fun hHeld => ?_)
          clear hK K
          try simp only [Act.put, List.setIfInBounds_toArray, List.set_cons_zero, List.set_cons_succ]
          generalize vw1.alloc (.cells #[.int .i64 0, .int .i64 0] 23) = vw2 at *
          generalize vw1.heap.size = g11 at *
          refine wpAnyH_ready (rs := [6]) (by kernel_rfl) (by simp) ?_
          refine (AllReadyH.cons rfl (fun K hK => ?_) AllReadyH.nil)
          obtain ⟨k0, k1, k4⟩ := Has.c2 (g := g10) (x := .int .i64 0) (y := .int .i64 0) (t := 23) F2.out (by simp)
          obtain ⟨k5, k6⟩ := frozen2 (F2.out.row (b := g10) (cs := #[.int .i64 0, .int .i64 0]) (t := 23) (by simp))
          go_simp
          have F3 := Lib.hid (Has.put2 (g := g10) (x := .int .i64 0) (y := .int .i64 0) (t := 23) (M := [(g11, #[.int .i64 0, .int .i64 0], 23), (w.heap.size + 1 + 1 + 1, #[.int .i64 t1, .int .i64 u1, .int .i64 v1, .int .i64 z1], 25), (w.heap.size + 1 + 1, #[.int .i64 0, .int .i64 0, .int .i64 0, .int .i64 0], 25), (w.heap.size + 1, #[.int .i64 p, .int .i64 q, .int .i64 r, .int .i64 s], 25), (w.heap.size, #[.int .i64 a, .int .i64 b, .int .i64 c, .int .i64 d], 25)]) F2.out (.int .i64 a) (.int .i64 b) (by simp) (by simp <;> omega))
          refine hK.out _ _ (XY.all (Has.xy F3.out (by simp))) (fun hHeld => ?_)
          clear hK K k0 k1 k4 k5 k6
          try simp only [Act.put, List.setIfInBounds_toArray, List.set_cons_zero, List.set_cons_succ]
          generalize (vw2.setCell ⟨g10, 0, none⟩ (.int .i64 a)).setCell ⟨g10, 1, none⟩ (.int .i64 b) = vw3 at *
          refine wpAnyH_ready (rs := [7]) (by kernel_rfl) (by simp) ?_
          refine (AllReadyH.cons rfl (fun K hK => ?_) AllReadyH.nil)
          obtain ⟨k0, k1, k4⟩ := Has.c2 (g := g11) (x := .int .i64 0) (y := .int .i64 0) (t := 23) F3.out (by simp)
          obtain ⟨k5, k6⟩ := frozen2 (F3.out.row (b := g11) (cs := #[.int .i64 0, .int .i64 0]) (t := 23) (by simp))
          go_simp
          have F4 := Lib.hid (Has.put2 (g := g11) (x := .int .i64 0) (y := .int .i64 0) (t := 23) (M := [(g10, #[.int .i64 a, .int .i64 b], 23), (w.heap.size + 1 + 1 + 1, #[.int .i64 t1, .int .i64 u1, .int .i64 v1, .int .i64 z1], 25), (w.heap.size + 1 + 1, #[.int .i64 0, .int .i64 0, .int .i64 0, .int .i64 0], 25), (w.heap.size + 1, #[.int .i64 p, .int .i64 q, .int .i64 r, .int .i64 s], 25), (w.heap.size, #[.int .i64 a, .int .i64 b, .int .i64 c, .int .i64 d], 25)]) F3.out (.int .i64 p) (.int .i64 q) (by simp) (by simp <;> omega))
          refine hK.out _ _ (XY.all (Has.xy F4.out (by simp))) (fun hHeld => ?_)
          clear hK K k0 k1 k4 k5 k6
          try simp only [Act.put, List.setIfInBounds_toArray, List.set_cons_zero, List.set_cons_succ]
          generalize (vw3.setCell ⟨g11, 0, none⟩ (.int .i64 p)).setCell ⟨g11, 1, none⟩ (.int .i64 q) = vw4 at *
          refine wpAnyH_done (by kernel_rfl) ?_ _
          go_wp2
          go_meet
          exact ⟨_, _, rfl, rfl, by omega, by omega, by omega, F4.out.sub (by intro x hx; simp only [List.mem_cons, List.not_mem_nil, or_false] at hx ⊢; rcases hx with h | h | h | h | h | h <;> simp [h])⟩
        · skip
          go_simp
          have F1 := Lib.hid (F0.out.alloc #[.int .i64 0, .int .i64 0] 23)
          have lt11 : w.heap.size + 1 + 1 + 1 < vw0.heap.size := Has.lt (x := (w.heap.size + 1 + 1 + 1, #[.int .i64 t1, .int .i64 u1, .int .i64 v1, .int .i64 z1], 25)) F0.out (by simp)
          refine hK.out _ _ (XY.all (Has.xy F1.out (by simp))) (fun hHeld => ?_)
          clear hK K
          try simp only [Act.put, List.setIfInBounds_toArray, List.set_cons_zero, List.set_cons_succ]
          generalize vw0.alloc (.cells #[.int .i64 0, .int .i64 0] 23) = vw1 at *
          generalize vw0.heap.size = g11 at *
          refine wpAnyH_ready (rs := [4]) (by kernel_rfl) (by simp) ?_
          refine (AllReadyH.cons rfl (fun K hK => ?_) AllReadyH.nil)
          go_simp
          have F2 := Lib.hid (F1.out.alloc #[.int .i64 0, .int .i64 0] 23)
          have lt10 : w.heap.size + 1 + 1 + 1 < vw1.heap.size := Has.lt (x := (w.heap.size + 1 + 1 + 1, #[.int .i64 t1, .int .i64 u1, .int .i64 v1, .int .i64 z1], 25)) F1.out (by simp)
          have ne10 : g11 < vw1.heap.size := Has.lt (x := (g11, #[.int .i64 0, .int .i64 0], 23)) F1.out (by simp)
          refine hK.out _ _ (XY.all (Has.xy F2.out (by simp))) (fun hHeld => ?_)
          clear hK K
          try simp only [Act.put, List.setIfInBounds_toArray, List.set_cons_zero, List.set_cons_succ]
          generalize vw1.alloc (.cells #[.int .i64 0, .int .i64 0] 23) = vw2 at *
          generalize vw1.heap.size = g10 at *
          refine wpAnyH_ready (rs := [6]) (by kernel_rfl) (by simp) ?_
          refine (AllReadyH.cons rfl (fun K hK => ?_) AllReadyH.nil)
          obtain ⟨k0, k1, k4⟩ := Has.c2 (g := g10) (x := .int .i64 0) (y := .int .i64 0) (t := 23) F2.out (by simp)
          obtain ⟨k5, k6⟩ := frozen2 (F2.out.row (b := g10) (cs := #[.int .i64 0, .int .i64 0]) (t := 23) (by simp))
          go_simp
          have F3 := Lib.hid (Has.put2 (g := g10) (x := .int .i64 0) (y := .int .i64 0) (t := 23) (M := [(g11, #[.int .i64 0, .int .i64 0], 23), (w.heap.size + 1 + 1 + 1, #[.int .i64 t1, .int .i64 u1, .int .i64 v1, .int .i64 z1], 25), (w.heap.size + 1 + 1, #[.int .i64 0, .int .i64 0, .int .i64 0, .int .i64 0], 25), (w.heap.size + 1, #[.int .i64 p, .int .i64 q, .int .i64 r, .int .i64 s], 25), (w.heap.size, #[.int .i64 a, .int .i64 b, .int .i64 c, .int .i64 d], 25)]) F2.out (.int .i64 a) (.int .i64 b) (by simp) (by simp <;> omega))
          refine hK.out _ _ (XY.all (Has.xy F3.out (by simp))) (fun hHeld => ?_)
          clear hK K k0 k1 k4 k5 k6
          try simp only [Act.put, List.setIfInBounds_toArray, List.set_cons_zero, List.set_cons_succ]
          generalize (vw2.setCell ⟨g10, 0, none⟩ (.int .i64 a)).setCell ⟨g10, 1, none⟩ (.int .i64 b) = vw3 at *
          refine wpAnyH_ready (rs := [7]) (by kernel_rfl) (by simp) ?_
          refine (AllReadyH.cons rfl (fun K hK => ?_) AllReadyH.nil)
          obtain ⟨k0, k1, k4⟩ := Has.c2 (g := g11) (x := .int .i64 0) (y := .int .i64 0) (t := 23) F3.out (by simp)
          obtain ⟨k5, k6⟩ := frozen2 (F3.out.row (b := g11) (cs := #[.int .i64 0, .int .i64 0]) (t := 23) (by simp))
          go_simp
          have F4 := Lib.hid (Has.put2 (g := g11) (x := .int .i64 0) (y := .int .i64 0) (t := 23) (M := [(g10, #[.int .i64 a, .int .i64 b], 23), (w.heap.size + 1 + 1 + 1, #[.int .i64 t1, .int .i64 u1, .int .i64 v1, .int .i64 z1], 25), (w.heap.size + 1 + 1, #[.int .i64 0, .int .i64 0, .int .i64 0, .int .i64 0], 25), (w.heap.size + 1, #[.int .i64 p, .int .i64 q, .int .i64 r, .int .i64 s], 25), (w.heap.size, #[.int .i64 a, .int .i64 b, .int .i64 c, .int .i64 d], 25)]) F3.out (.int .i64 p) (.int .i64 q) (by simp) (by simp <;> omega))
          refine hK.out _ _ (XY.all (Has.xy F4.out (by simp))) (fun hHeld => ?_)
          clear hK K k0 k1 k4 k5 k6
          try simp only [Act.put, List.setIfInBounds_toArray, List.set_cons_zero, List.set_cons_succ]
          generalize (vw3.setCell ⟨g11, 0, none⟩ (.int .i64 p)).setCell ⟨g11, 1, none⟩ (.int .i64 q) = vw4 at *
          refine wpAnyH_done (by kernel_rfl) ?_ _
          go_wp2
          go_meet
          exact ⟨_, _, rfl, rfl, by omega, by omega, by omega, F4.out.sub (by intro x hx; simp only [List.mem_cons, List.not_mem_nil, or_false] at hx ⊢; rcases hx with h | h | h | h | h | h <;> simp [h])⟩
      case rest =>
        obtain ⟨g10, g11, rfl, rfl, l10, l11, ne, hT⟩ := hcut
        have T2 := Lib.hid hT
        clear hT T1
        obtain ⟨h0, h1, h2, h3, h4⟩ := Has.c4 (g := w.heap.size + 1) (x := .int .i64 p) (y := .int .i64 q) (z := .int .i64 r) (u := .int .i64 s) (t := 25) T2.out (by simp)
        obtain ⟨m0, m1, m4⟩ := Has.c2 (g := g11) (x := .int .i64 p) (y := .int .i64 q) (t := 23) T2.out (by simp)
        obtain ⟨m5, m6⟩ := frozen2 (T2.out.row (b := g11) (cs := #[.int .i64 p, .int .i64 q]) (t := 23) (by simp))
        have T4 := Lib.hid (Has.put2 (g := g11) (x := .int .i64 p) (y := .int .i64 q) (t := 23) (M := [(g10, #[.int .i64 a, .int .i64 b], 23), (w.heap.size + 1 + 1 + 1, #[.int .i64 t1, .int .i64 u1, .int .i64 v1, .int .i64 z1], 25), (w.heap.size + 1 + 1, #[.int .i64 0, .int .i64 0, .int .i64 0, .int .i64 0], 25), (w.heap.size + 1, #[.int .i64 p, .int .i64 q, .int .i64 r, .int .i64 s], 25), (w.heap.size, #[.int .i64 a, .int .i64 b, .int .i64 c, .int .i64 d], 25)]) T2.out (.int .i64 r) (.int .i64 s) (by simp) (by simp <;> omega))
        go_upto_region 10 with fail
        generalize (wc.setCell ⟨g11, 0, none⟩ (.int .i64 r)).setCell ⟨g11, 1, none⟩ (.int .i64 s) = yy4 at *
        clear T2 h0 h1 h2 h3 h4 m0 m1 m4 m5 m6
        obtain ⟨m0, m1, m4⟩ := Has.c2 (g := g10) (x := .int .i64 a) (y := .int .i64 b) (t := 23) T4.out (by simp)
        obtain ⟨n0, n1, n4⟩ := Has.c2 (g := g11) (x := .int .i64 r) (y := .int .i64 s) (t := 23) T4.out (by simp)
        go_wp2_with fail
        with_reducible refine ((MX1.out) _).mono ?_
        rintro e w4 ⟨rfl, hb⟩
        have TA := Lib.hid ((T4.out.step hb).alloc #[.int .i64 mx1, .int .i64 my1] 23)
        have l12 : w.heap.size + 1 + 1 + 1 < w4.heap.size := Has.lt (x := (w.heap.size + 1 + 1 + 1, #[.int .i64 t1, .int .i64 u1, .int .i64 v1, .int .i64 z1], 25)) (T4.out.step hb) (by simp)
        clear hb T4 m0 m1 m4 n0 n1 n4
        go_upto_region 12 with fail
        generalize w4.alloc (.cells #[.int .i64 mx1, .int .i64 my1] 23) = yy6 at *
        generalize w4.heap.size = g12 at *
        obtain ⟨m0, m1, m4⟩ := Has.c2 (g := g10) (x := .int .i64 a) (y := .int .i64 b) (t := 23) TA.out (by simp)
        obtain ⟨n0, n1, n4⟩ := Has.c2 (g := g11) (x := .int .i64 r) (y := .int .i64 s) (t := 23) TA.out (by simp)
        go_wp2_with fail
        with_reducible refine ((MU1.out) _).mono ?_
        rintro e w5 ⟨rfl, hb⟩
        have TB := Lib.hid (TA.out.step hb)
        clear hb TA m0 m1 m4 n0 n1 n4
        obtain ⟨m0, m1, m4⟩ := Has.c2 (g := g12) (x := .int .i64 mx1) (y := .int .i64 my1) (t := 23) TB.out (by simp)
        obtain ⟨m5, m6⟩ := frozen2 (TB.out.row (b := g12) (cs := #[.int .i64 mx1, .int .i64 my1]) (t := 23) (by simp))
        have T5 := Lib.hid (Has.put2 (g := g12) (x := .int .i64 mx1) (y := .int .i64 my1) (t := 23) (M := [(w.heap.size + 1 + 1 + 1, #[.int .i64 t1, .int .i64 u1, .int .i64 v1, .int .i64 z1], 25), (w.heap.size + 1 + 1, #[.int .i64 0, .int .i64 0, .int .i64 0, .int .i64 0], 25), (w.heap.size + 1, #[.int .i64 p, .int .i64 q, .int .i64 r, .int .i64 s], 25), (w.heap.size, #[.int .i64 a, .int .i64 b, .int .i64 c, .int .i64 d], 25)]) TB.out (.int .i64 x1) (.int .i64 y1) (by simp) (by simp <;> omega))
        go_upto_region 13 with fail
        generalize (w5.setCell ⟨g12, 0, none⟩ (.int .i64 x1)).setCell ⟨g12, 1, none⟩ (.int .i64 y1) = yy5 at *
        clear TB m0 m1 m4 m5 m6
        by_cases he : e1 = 0
        · subst he
          obtain ⟨h0, h1, h2, h3, h4⟩ := Has.c4 (g := w.heap.size + 1 + 1 + 1) (x := .int .i64 t1) (y := .int .i64 u1) (z := .int .i64 v1) (u := .int .i64 z1) (t := 25) T5.out (by simp)
          obtain ⟨m0, m1, m4⟩ := Has.c2 (g := g12) (x := .int .i64 x1) (y := .int .i64 y1) (t := 23) T5.out (by simp)
          go_wp2_with fail
          with_reducible refine ((WI1.out) _).mono ?_
          rintro e w8 ⟨rfl, hb⟩
          have T8 := Lib.hid (T5.out.step hb)
          clear hb T5 h0 h1 h2 h3 h4 m0 m1 m4
          obtain ⟨h0, h1, h2, h3, h4⟩ := Has.c4 (g := w.heap.size + 1 + 1 + 1) (x := .int .i64 t1) (y := .int .i64 u1) (z := .int .i64 v1) (u := .int .i64 z1) (t := 25) T8.out (by simp)
          obtain ⟨h5, h6, h7, h8⟩ := Has.f4 (g := w.heap.size + 1 + 1 + 1) (cs := #[.int .i64 t1, .int .i64 u1, .int .i64 v1, .int .i64 z1]) (t := 25) T8.out (by simp)
          have T9 := Lib.hid (Has.put4 (g := w.heap.size + 1 + 1 + 1) (x := .int .i64 t1) (y := .int .i64 u1) (z := .int .i64 v1) (u := .int .i64 z1) (t := 25) (M := [(g12, #[.int .i64 x1, .int .i64 y1], 23), (w.heap.size + 1 + 1, #[.int .i64 0, .int .i64 0, .int .i64 0, .int .i64 0], 25), (w.heap.size + 1, #[.int .i64 p, .int .i64 q, .int .i64 r, .int .i64 s], 25), (w.heap.size, #[.int .i64 a, .int .i64 b, .int .i64 c, .int .i64 d], 25)]) T8.out (.int .i64 t2) (.int .i64 u2) (.int .i64 v2) (.int .i64 z2) (by simp) (by simp <;> omega))
          go_wp2
          go_roundw
          case rel => exact Or.inr (Or.inr (Or.inl ⟨(by first | rfl | trivial), H.out.1, (by first | rfl | trivial), T9.out.sub (by intro x hx; simp only [List.mem_cons, List.not_mem_nil, or_false] at hx ⊢; rcases hx with h | h | h | h <;> simp [h])⟩))
          case measure => simp [intOf]
        · have RR := R1.out H.out.1 he
          obtain ⟨k0, k1, k2, k3, k4⟩ := Has.c4 (g := w.heap.size + 1 + 1) (x := .int .i64 0) (y := .int .i64 0) (z := .int .i64 0) (u := .int .i64 0) (t := 25) T5.out (by simp)
          obtain ⟨k5, k6, k7, k8⟩ := Has.f4 (g := w.heap.size + 1 + 1) (cs := #[.int .i64 0, .int .i64 0, .int .i64 0, .int .i64 0]) (t := 25) T5.out (by simp)
          have T6 := Lib.hid (Has.put4 (g := w.heap.size + 1 + 1) (x := .int .i64 0) (y := .int .i64 0) (z := .int .i64 0) (u := .int .i64 0) (t := 25) (M := [(w.heap.size + 1 + 1 + 1, #[.int .i64 t1, .int .i64 u1, .int .i64 v1, .int .i64 z1], 25), (w.heap.size + 1, #[.int .i64 p, .int .i64 q, .int .i64 r, .int .i64 s], 25), (w.heap.size, #[.int .i64 a, .int .i64 b, .int .i64 c, .int .i64 d], 25)]) T5.out (.int .i64 0) (.int .i64 0) (.int .i64 0) (.int .i64 0) (by simp) (by simp <;> omega))
          go_wp2
          refine bodyPost_ret (res_cell_tmp rfl _ _ (w.heap.size + 1 + 1) 25 #[.int .i64 0, .int .i64 0, .int .i64 0, .int .i64 0] (0, 0) _ rfl (T6.out.row (by simp)) Try.underlying25 rfl info25) rfl ?_
          exact ⟨by rw [RR]; first | done | rfl, T6.out.1⟩
    · skip
      have T1 := Lib.hid (H.out.2.2)
      go_upto_region 5 with fail
      go_cut [10, 11] (fun sa sb wx => ∃ g10 g11 : Nat, sa = .pointer (some ⟨g10, 0, none⟩) ∧ sb = .pointer (some ⟨g11, 0, none⟩) ∧ w.heap.size + 1 + 1 + 1 < g10 ∧ w.heap.size + 1 + 1 + 1 < g11 ∧ g10 ≠ g11 ∧ Has w [(g10, #[.int .i64 a, .int .i64 b], 23), (g11, #[.int .i64 p, .int .i64 q], 23), (w.heap.size + 1 + 1 + 1, #[.int .i64 t2, .int .i64 u2, .int .i64 v2, .int .i64 z2], 25), (w.heap.size + 1 + 1, #[.int .i64 0, .int .i64 0, .int .i64 0, .int .i64 0], 25), (w.heap.size + 1, #[.int .i64 p, .int .i64 q, .int .i64 r, .int .i64 s], 25), (w.heap.size, #[.int .i64 a, .int .i64 b, .int .i64 c, .int .i64 d], 25)] wx)
      case first =>
        have F0 := Lib.hid T1.out.drew
        refine wp_region_held_drew (S := (fun V => XY w a b c d p q r s V ∧ (V.cell? ⟨w.heap.size, 0, none⟩ = some (.int .i64 a) ∧ V.cell? ⟨w.heap.size, 1, none⟩ = some (.int .i64 b) ∧ V.cell? ⟨w.heap.size, 2, none⟩ = some (.int .i64 c) ∧ V.cell? ⟨w.heap.size, 3, none⟩ = some (.int .i64 d)) ∧ V.cell? ⟨w.heap.size + 1, 0, none⟩ = some (.int .i64 p) ∧ V.cell? ⟨w.heap.size + 1, 1, none⟩ = some (.int .i64 q) ∧ V.cell? ⟨w.heap.size + 1, 2, none⟩ = some (.int .i64 r) ∧ V.cell? ⟨w.heap.size + 1, 3, none⟩ = some (.int .i64 s))) (by kernel_rfl) (XY.all (Has.xy F0.out (by simp))) (fun hHeld => ?_)
        generalize wr.drew = vw0 at *
        refine wpAnyH_take (i := 0) (v := _) rfl (by kernel_rfl) (by kernel_rfl) (by kernel_rfl) (fun _ _ _ h => h) (Or.inl ⟨by rfl, by intro w hSw; (try dsimp only at hSw); go_simp; try (with_reducible rfl)⟩) (by assumption) ?_
        try simp only [Act.put, List.setIfInBounds_toArray, List.set_cons_zero, List.set_cons_succ]
        refine wpAnyH_take (i := 1) (v := _) rfl (by kernel_rfl) (by kernel_rfl) (by kernel_rfl) (fun _ _ _ h => h) (Or.inl ⟨by rfl, by intro w hSw; (try dsimp only at hSw); go_simp; try (with_reducible rfl)⟩) (by assumption) ?_
        try simp only [Act.put, List.setIfInBounds_toArray, List.set_cons_zero, List.set_cons_succ]
        refine wpAnyH_take (i := 2) (v := _) rfl (by kernel_rfl) (by kernel_rfl) (by kernel_rfl) (fun _ _ _ h => h) (Or.inl ⟨by rfl, by intro w hSw; (try dsimp only at hSw); go_simp; try (with_reducible rfl)⟩) (by assumption) ?_
        try simp only [Act.put, List.setIfInBounds_toArray, List.set_cons_zero, List.set_cons_succ]
        refine wpAnyH_take (i := 3) (v := _) rfl (by kernel_rfl) (by kernel_rfl) (by kernel_rfl) (fun _ _ _ h => h) (Or.inl ⟨by rfl, by intro w hSw; (try dsimp only at hSw); go_simp; try (with_reducible rfl)⟩) (by assumption) ?_
        try simp only [Act.put, List.setIfInBounds_toArray, List.set_cons_zero, List.set_cons_succ]
        refine wpAnyH_ready (rs := [4, 5]) (by kernel_rfl) (by simp) ?_
        refine (AllReadyH.cons rfl (fun K hK => ?_) (AllReadyH.cons rfl (fun K hK => ?_) AllReadyH.nil))
        · skip
          go_simp
          have F1 := Lib.hid (F0.out.alloc #[.int .i64 0, .int .i64 0] 23)
          have lt10 : w.heap.size + 1 + 1 + 1 < vw0.heap.size := Has.lt (x := (w.heap.size + 1 + 1 + 1, #[.int .i64 t2, .int .i64 u2, .int .i64 v2, .int .i64 z2], 25)) F0.out (by simp)
          refine hK.out _ _ (XY.all (Has.xy F1.out (by simp))) (fun hHeld => ?_)
          clear hK K
          try simp only [Act.put, List.setIfInBounds_toArray, List.set_cons_zero, List.set_cons_succ]
          generalize vw0.alloc (.cells #[.int .i64 0, .int .i64 0] 23) = vw1 at *
          generalize vw0.heap.size = g10 at *
          refine wpAnyH_ready (rs := [5]) (by kernel_rfl) (by simp) ?_
          refine (AllReadyH.cons rfl (fun K hK => ?_) AllReadyH.nil)
          go_simp
          have F2 := Lib.hid (F1.out.alloc #[.int .i64 0, .int .i64 0] 23)
          have lt11 : w.heap.size + 1 + 1 + 1 < vw1.heap.size := Has.lt (x := (w.heap.size + 1 + 1 + 1, #[.int .i64 t2, .int .i64 u2, .int .i64 v2, .int .i64 z2], 25)) F1.out (by simp)
          have ne11 : g10 < vw1.heap.size := Has.lt (x := (g10, #[.int .i64 0, .int .i64 0], 23)) F1.out (by simp)
          refine hK.out _ _ (XY.all (Has.xy F2.out (by simp))) (fun hHeld => ?_)
          clear hK K
          try simp only [Act.put, List.setIfInBounds_toArray, List.set_cons_zero, List.set_cons_succ]
          generalize vw1.alloc (.cells #[.int .i64 0, .int .i64 0] 23) = vw2 at *
          generalize vw1.heap.size = g11 at *
          refine wpAnyH_ready (rs := [6]) (by kernel_rfl) (by simp) ?_
          refine (AllReadyH.cons rfl (fun K hK => ?_) AllReadyH.nil)
          obtain ⟨k0, k1, k4⟩ := Has.c2 (g := g10) (x := .int .i64 0) (y := .int .i64 0) (t := 23) F2.out (by simp)
          obtain ⟨k5, k6⟩ := frozen2 (F2.out.row (b := g10) (cs := #[.int .i64 0, .int .i64 0]) (t := 23) (by simp))
          go_simp
          have F3 := Lib.hid (Has.put2 (g := g10) (x := .int .i64 0) (y := .int .i64 0) (t := 23) (M := [(g11, #[.int .i64 0, .int .i64 0], 23), (w.heap.size + 1 + 1 + 1, #[.int .i64 t2, .int .i64 u2, .int .i64 v2, .int .i64 z2], 25), (w.heap.size + 1 + 1, #[.int .i64 0, .int .i64 0, .int .i64 0, .int .i64 0], 25), (w.heap.size + 1, #[.int .i64 p, .int .i64 q, .int .i64 r, .int .i64 s], 25), (w.heap.size, #[.int .i64 a, .int .i64 b, .int .i64 c, .int .i64 d], 25)]) F2.out (.int .i64 a) (.int .i64 b) (by simp) (by simp <;> omega))
          refine hK.out _ _ (XY.all (Has.xy F3.out (by simp))) (fun hHeld => ?_)
          clear hK K k0 k1 k4 k5 k6
          try simp only [Act.put, List.setIfInBounds_toArray, List.set_cons_zero, List.set_cons_succ]
          generalize (vw2.setCell ⟨g10, 0, none⟩ (.int .i64 a)).setCell ⟨g10, 1, none⟩ (.int .i64 b) = vw3 at *
          refine wpAnyH_ready (rs := [7]) (by kernel_rfl) (by simp) ?_
          refine (AllReadyH.cons rfl (fun K hK => ?_) AllReadyH.nil)
          obtain ⟨k0, k1, k4⟩ := Has.c2 (g := g11) (x := .int .i64 0) (y := .int .i64 0) (t := 23) F3.out (by simp)
          obtain ⟨k5, k6⟩ := frozen2 (F3.out.row (b := g11) (cs := #[.int .i64 0, .int .i64 0]) (t := 23) (by simp))
          go_simp
          have F4 := Lib.hid (Has.put2 (g := g11) (x := .int .i64 0) (y := .int .i64 0) (t := 23) (M := [(g10, #[.int .i64 a, .int .i64 b], 23), (w.heap.size + 1 + 1 + 1, #[.int .i64 t2, .int .i64 u2, .int .i64 v2, .int .i64 z2], 25), (w.heap.size + 1 + 1, #[.int .i64 0, .int .i64 0, .int .i64 0, .int .i64 0], 25), (w.heap.size + 1, #[.int .i64 p, .int .i64 q, .int .i64 r, .int .i64 s], 25), (w.heap.size, #[.int .i64 a, .int .i64 b, .int .i64 c, .int .i64 d], 25)]) F3.out (.int .i64 p) (.int .i64 q) (by simp) (by simp <;> omega))
          refine hK.out _ _ (XY.all (Has.xy F4.out (by simp))) (fun hHeld => ?_)
          clear hK K k0 k1 k4 k5 k6
          try simp only [Act.put, List.setIfInBounds_toArray, List.set_cons_zero, List.set_cons_succ]
          generalize (vw3.setCell ⟨g11, 0, none⟩ (.int .i64 p)).setCell ⟨g11, 1, none⟩ (.int .i64 q) = vw4 at *
          refine wpAnyH_done (by kernel_rfl) ?_ _
          go_wp2
          go_meet
          exact ⟨_, _, rfl, rfl, by omega, by omega, by omega, F4.out.sub (by intro x hx; simp only [List.mem_cons, List.not_mem_nil, or_false] at hx ⊢; rcases hx with h | h | h | h | h | h <;> simp [h])⟩
        · skip
          go_simp
          have F1 := Lib.hid (F0.out.alloc #[.int .i64 0, .int .i64 0] 23)
          have lt11 : w.heap.size + 1 + 1 + 1 < vw0.heap.size := Has.lt (x := (w.heap.size + 1 + 1 + 1, #[.int .i64 t2, .int .i64 u2, .int .i64 v2, .int .i64 z2], 25)) F0.out (by simp)
          refine hK.out _ _ (XY.all (Has.xy F1.out (by simp))) (fun hHeld => ?_)
          clear hK K
          try simp only [Act.put, List.setIfInBounds_toArray, List.set_cons_zero, List.set_cons_succ]
          generalize vw0.alloc (.cells #[.int .i64 0, .int .i64 0] 23) = vw1 at *
          generalize vw0.heap.size = g11 at *
          refine wpAnyH_ready (rs := [4]) (by kernel_rfl) (by simp) ?_
          refine (AllReadyH.cons rfl (fun K hK => ?_) AllReadyH.nil)
          go_simp
          have F2 := Lib.hid (F1.out.alloc #[.int .i64 0, .int .i64 0] 23)
          have lt10 : w.heap.size + 1 + 1 + 1 < vw1.heap.size := Has.lt (x := (w.heap.size + 1 + 1 + 1, #[.int .i64 t2, .int .i64 u2, .int .i64 v2, .int .i64 z2], 25)) F1.out (by simp)
          have ne10 : g11 < vw1.heap.size := Has.lt (x := (g11, #[.int .i64 0, .int .i64 0], 23)) F1.out (by simp)
          refine hK.out _ _ (XY.all (Has.xy F2.out (by simp))) (fun hHeld => ?_)
          clear hK K
          try simp only [Act.put, List.setIfInBounds_toArray, List.set_cons_zero, List.set_cons_succ]
          generalize vw1.alloc (.cells #[.int .i64 0, .int .i64 0] 23) = vw2 at *
          generalize vw1.heap.size = g10 at *
          refine wpAnyH_ready (rs := [6]) (by kernel_rfl) (by simp) ?_
          refine (AllReadyH.cons rfl (fun K hK => ?_) AllReadyH.nil)
          obtain ⟨k0, k1, k4⟩ := Has.c2 (g := g10) (x := .int .i64 0) (y := .int .i64 0) (t := 23) F2.out (by simp)
          obtain ⟨k5, k6⟩ := frozen2 (F2.out.row (b := g10) (cs := #[.int .i64 0, .int .i64 0]) (t := 23) (by simp))
          go_simp
          have F3 := Lib.hid (Has.put2 (g := g10) (x := .int .i64 0) (y := .int .i64 0) (t := 23) (M := [(g11, #[.int .i64 0, .int .i64 0], 23), (w.heap.size + 1 + 1 + 1, #[.int .i64 t2, .int .i64 u2, .int .i64 v2, .int .i64 z2], 25), (w.heap.size + 1 + 1, #[.int .i64 0, .int .i64 0, .int .i64 0, .int .i64 0], 25), (w.heap.size + 1, #[.int .i64 p, .int .i64 q, .int .i64 r, .int .i64 s], 25), (w.heap.size, #[.int .i64 a, .int .i64 b, .int .i64 c, .int .i64 d], 25)]) F2.out (.int .i64 a) (.int .i64 b) (by simp) (by simp <;> omega))
          refine hK.out _ _ (XY.all (Has.xy F3.out (by simp))) (fun hHeld => ?_)
          clear hK K k0 k1 k4 k5 k6
          try simp only [Act.put, List.setIfInBounds_toArray, List.set_cons_zero, List.set_cons_succ]
          generalize (vw2.setCell ⟨g10, 0, none⟩ (.int .i64 a)).setCell ⟨g10, 1, none⟩ (.int .i64 b) = vw3 at *
          refine wpAnyH_ready (rs := [7]) (by kernel_rfl) (by simp) ?_
          refine (AllReadyH.cons rfl (fun K hK => ?_) AllReadyH.nil)
          obtain ⟨k0, k1, k4⟩ := Has.c2 (g := g11) (x := .int .i64 0) (y := .int .i64 0) (t := 23) F3.out (by simp)
          obtain ⟨k5, k6⟩ := frozen2 (F3.out.row (b := g11) (cs := #[.int .i64 0, .int .i64 0]) (t := 23) (by simp))
          go_simp
          have F4 := Lib.hid (Has.put2 (g := g11) (x := .int .i64 0) (y := .int .i64 0) (t := 23) (M := [(g10, #[.int .i64 a, .int .i64 b], 23), (w.heap.size + 1 + 1 + 1, #[.int .i64 t2, .int .i64 u2, .int .i64 v2, .int .i64 z2], 25), (w.heap.size + 1 + 1, #[.int .i64 0, .int .i64 0, .int .i64 0, .int .i64 0], 25), (w.heap.size + 1, #[.int .i64 p, .int .i64 q, .int .i64 r, .int .i64 s], 25), (w.heap.size, #[.int .i64 a, .int .i64 b, .int .i64 c, .int .i64 d], 25)]) F3.out (.int .i64 p) (.int .i64 q) (by simp) (by simp <;> omega))
          refine hK.out _ _ (XY.all (Has.xy F4.out (by simp))) (fun hHeld => ?_)
          clear hK K k0 k1 k4 k5 k6
          try simp only [Act.put, List.setIfInBounds_toArray, List.set_cons_zero, List.set_cons_succ]
          generalize (vw3.setCell ⟨g11, 0, none⟩ (.int .i64 p)).setCell ⟨g11, 1, none⟩ (.int .i64 q) = vw4 at *
          refine wpAnyH_done (by kernel_rfl) ?_ _
          go_wp2
          go_meet
          exact ⟨_, _, rfl, rfl, by omega, by omega, by omega, F4.out.sub (by intro x hx; simp only [List.mem_cons, List.not_mem_nil, or_false] at hx ⊢; rcases hx with h | h | h | h | h | h <;> simp [h])⟩
      case rest =>
        obtain ⟨g10, g11, rfl, rfl, l10, l11, ne, hT⟩ := hcut
        have T2 := Lib.hid hT
        clear hT T1
        obtain ⟨h0, h1, h2, h3, h4⟩ := Has.c4 (g := w.heap.size) (x := .int .i64 a) (y := .int .i64 b) (z := .int .i64 c) (u := .int .i64 d) (t := 25) T2.out (by simp)
        obtain ⟨m0, m1, m4⟩ := Has.c2 (g := g10) (x := .int .i64 a) (y := .int .i64 b) (t := 23) T2.out (by simp)
        obtain ⟨m5, m6⟩ := frozen2 (T2.out.row (b := g10) (cs := #[.int .i64 a, .int .i64 b]) (t := 23) (by simp))
        have T3 := Lib.hid (Has.put2 (g := g10) (x := .int .i64 a) (y := .int .i64 b) (t := 23) (M := [(g11, #[.int .i64 p, .int .i64 q], 23), (w.heap.size + 1 + 1 + 1, #[.int .i64 t2, .int .i64 u2, .int .i64 v2, .int .i64 z2], 25), (w.heap.size + 1 + 1, #[.int .i64 0, .int .i64 0, .int .i64 0, .int .i64 0], 25), (w.heap.size + 1, #[.int .i64 p, .int .i64 q, .int .i64 r, .int .i64 s], 25), (w.heap.size, #[.int .i64 a, .int .i64 b, .int .i64 c, .int .i64 d], 25)]) T2.out (.int .i64 c) (.int .i64 d) (by simp) (by simp <;> omega))
        go_upto_region 8 with fail
        generalize (wc.setCell ⟨g10, 0, none⟩ (.int .i64 c)).setCell ⟨g10, 1, none⟩ (.int .i64 d) = yy3 at *
        clear T2 h0 h1 h2 h3 h4 m0 m1 m4 m5 m6
        obtain ⟨m0, m1, m4⟩ := Has.c2 (g := g10) (x := .int .i64 c) (y := .int .i64 d) (t := 23) T3.out (by simp)
        obtain ⟨n0, n1, n4⟩ := Has.c2 (g := g11) (x := .int .i64 p) (y := .int .i64 q) (t := 23) T3.out (by simp)
        go_wp2_with fail
        with_reducible refine ((MX2.out) _).mono ?_
        rintro e w4 ⟨rfl, hb⟩
        have TA := Lib.hid ((T3.out.step hb).alloc #[.int .i64 mx2, .int .i64 my2] 23)
        have l12 : w.heap.size + 1 + 1 + 1 < w4.heap.size := Has.lt (x := (w.heap.size + 1 + 1 + 1, #[.int .i64 t2, .int .i64 u2, .int .i64 v2, .int .i64 z2], 25)) (T3.out.step hb) (by simp)
        clear hb T3 m0 m1 m4 n0 n1 n4
        go_upto_region 12 with fail
        generalize w4.alloc (.cells #[.int .i64 mx2, .int .i64 my2] 23) = yy6 at *
        generalize w4.heap.size = g12 at *
        obtain ⟨m0, m1, m4⟩ := Has.c2 (g := g10) (x := .int .i64 c) (y := .int .i64 d) (t := 23) TA.out (by simp)
        obtain ⟨n0, n1, n4⟩ := Has.c2 (g := g11) (x := .int .i64 p) (y := .int .i64 q) (t := 23) TA.out (by simp)
        go_wp2_with fail
        with_reducible refine ((MU2.out) _).mono ?_
        rintro e w5 ⟨rfl, hb⟩
        have TB := Lib.hid (TA.out.step hb)
        clear hb TA m0 m1 m4 n0 n1 n4
        obtain ⟨m0, m1, m4⟩ := Has.c2 (g := g12) (x := .int .i64 mx2) (y := .int .i64 my2) (t := 23) TB.out (by simp)
        obtain ⟨m5, m6⟩ := frozen2 (TB.out.row (b := g12) (cs := #[.int .i64 mx2, .int .i64 my2]) (t := 23) (by simp))
        have T5 := Lib.hid (Has.put2 (g := g12) (x := .int .i64 mx2) (y := .int .i64 my2) (t := 23) (M := [(w.heap.size + 1 + 1 + 1, #[.int .i64 t2, .int .i64 u2, .int .i64 v2, .int .i64 z2], 25), (w.heap.size + 1 + 1, #[.int .i64 0, .int .i64 0, .int .i64 0, .int .i64 0], 25), (w.heap.size + 1, #[.int .i64 p, .int .i64 q, .int .i64 r, .int .i64 s], 25), (w.heap.size, #[.int .i64 a, .int .i64 b, .int .i64 c, .int .i64 d], 25)]) TB.out (.int .i64 x2) (.int .i64 y2) (by simp) (by simp <;> omega))
        go_upto_region 13 with fail
        generalize (w5.setCell ⟨g12, 0, none⟩ (.int .i64 x2)).setCell ⟨g12, 1, none⟩ (.int .i64 y2) = yy5 at *
        clear TB m0 m1 m4 m5 m6
        by_cases he : e2 = 0
        · subst he
          obtain ⟨h0, h1, h2, h3, h4⟩ := Has.c4 (g := w.heap.size + 1 + 1 + 1) (x := .int .i64 t2) (y := .int .i64 u2) (z := .int .i64 v2) (u := .int .i64 z2) (t := 25) T5.out (by simp)
          obtain ⟨m0, m1, m4⟩ := Has.c2 (g := g12) (x := .int .i64 x2) (y := .int .i64 y2) (t := 23) T5.out (by simp)
          go_wp2_with fail
          with_reducible refine ((WI2.out) _).mono ?_
          rintro e w8 ⟨rfl, hb⟩
          have T8 := Lib.hid (T5.out.step hb)
          clear hb T5 h0 h1 h2 h3 h4 m0 m1 m4
          obtain ⟨h0, h1, h2, h3, h4⟩ := Has.c4 (g := w.heap.size + 1 + 1 + 1) (x := .int .i64 t2) (y := .int .i64 u2) (z := .int .i64 v2) (u := .int .i64 z2) (t := 25) T8.out (by simp)
          obtain ⟨h5, h6, h7, h8⟩ := Has.f4 (g := w.heap.size + 1 + 1 + 1) (cs := #[.int .i64 t2, .int .i64 u2, .int .i64 v2, .int .i64 z2]) (t := 25) T8.out (by simp)
          have T9 := Lib.hid (Has.put4 (g := w.heap.size + 1 + 1 + 1) (x := .int .i64 t2) (y := .int .i64 u2) (z := .int .i64 v2) (u := .int .i64 z2) (t := 25) (M := [(g12, #[.int .i64 x2, .int .i64 y2], 23), (w.heap.size + 1 + 1, #[.int .i64 0, .int .i64 0, .int .i64 0, .int .i64 0], 25), (w.heap.size + 1, #[.int .i64 p, .int .i64 q, .int .i64 r, .int .i64 s], 25), (w.heap.size, #[.int .i64 a, .int .i64 b, .int .i64 c, .int .i64 d], 25)]) T8.out (.int .i64 t3) (.int .i64 u3) (.int .i64 v3) (.int .i64 z3) (by simp) (by simp <;> omega))
          go_wp2
          go_roundw
          case rel => exact Or.inr (Or.inr (Or.inr (Or.inl ⟨(by first | rfl | trivial), H.out.1, H.out.2.1, (by first | rfl | trivial), T9.out.sub (by intro x hx; simp only [List.mem_cons, List.not_mem_nil, or_false] at hx ⊢; rcases hx with h | h | h | h <;> simp [h])⟩)))
          case measure => simp [intOf]
        · have RR := R2.out H.out.1 H.out.2.1 he
          obtain ⟨k0, k1, k2, k3, k4⟩ := Has.c4 (g := w.heap.size + 1 + 1) (x := .int .i64 0) (y := .int .i64 0) (z := .int .i64 0) (u := .int .i64 0) (t := 25) T5.out (by simp)
          obtain ⟨k5, k6, k7, k8⟩ := Has.f4 (g := w.heap.size + 1 + 1) (cs := #[.int .i64 0, .int .i64 0, .int .i64 0, .int .i64 0]) (t := 25) T5.out (by simp)
          have T6 := Lib.hid (Has.put4 (g := w.heap.size + 1 + 1) (x := .int .i64 0) (y := .int .i64 0) (z := .int .i64 0) (u := .int .i64 0) (t := 25) (M := [(w.heap.size + 1 + 1 + 1, #[.int .i64 t2, .int .i64 u2, .int .i64 v2, .int .i64 z2], 25), (w.heap.size + 1, #[.int .i64 p, .int .i64 q, .int .i64 r, .int .i64 s], 25), (w.heap.size, #[.int .i64 a, .int .i64 b, .int .i64 c, .int .i64 d], 25)]) T5.out (.int .i64 0) (.int .i64 0) (.int .i64 0) (.int .i64 0) (by simp) (by simp <;> omega))
          go_wp2
          refine bodyPost_ret (res_cell_tmp rfl _ _ (w.heap.size + 1 + 1) 25 #[.int .i64 0, .int .i64 0, .int .i64 0, .int .i64 0] (0, 0) _ rfl (T6.out.row (by simp)) Try.underlying25 rfl info25) rfl ?_
          exact ⟨by rw [RR]; first | done | rfl, T6.out.1⟩
    · skip
      have T1 := Lib.hid (H.out.2.2.2)
      go_upto_region 5 with fail
      go_cut [10, 11] (fun sa sb wx => ∃ g10 g11 : Nat, sa = .pointer (some ⟨g10, 0, none⟩) ∧ sb = .pointer (some ⟨g11, 0, none⟩) ∧ w.heap.size + 1 + 1 + 1 < g10 ∧ w.heap.size + 1 + 1 + 1 < g11 ∧ g10 ≠ g11 ∧ Has w [(g10, #[.int .i64 a, .int .i64 b], 23), (g11, #[.int .i64 p, .int .i64 q], 23), (w.heap.size + 1 + 1 + 1, #[.int .i64 t3, .int .i64 u3, .int .i64 v3, .int .i64 z3], 25), (w.heap.size + 1 + 1, #[.int .i64 0, .int .i64 0, .int .i64 0, .int .i64 0], 25), (w.heap.size + 1, #[.int .i64 p, .int .i64 q, .int .i64 r, .int .i64 s], 25), (w.heap.size, #[.int .i64 a, .int .i64 b, .int .i64 c, .int .i64 d], 25)] wx)
      case first =>
        have F0 := Lib.hid T1.out.drew
        refine wp_region_held_drew (S := (fun V => XY w a b c d p q r s V ∧ (V.cell? ⟨w.heap.size, 0, none⟩ = some (.int .i64 a) ∧ V.cell? ⟨w.heap.size, 1, none⟩ = some (.int .i64 b) ∧ V.cell? ⟨w.heap.size, 2, none⟩ = some (.int .i64 c) ∧ V.cell? ⟨w.heap.size, 3, none⟩ = some (.int .i64 d)) ∧ V.cell? ⟨w.heap.size + 1, 0, none⟩ = some (.int .i64 p) ∧ V.cell? ⟨w.heap.size + 1, 1, none⟩ = some (.int .i64 q) ∧ V.cell? ⟨w.heap.size + 1, 2, none⟩ = some (.int .i64 r) ∧ V.cell? ⟨w.heap.size + 1, 3, none⟩ = some (.int .i64 s))) (by kernel_rfl) (XY.all (Has.xy F0.out (by simp))) (fun hHeld => ?_)
        generalize wr.drew = vw0 at *
        refine wpAnyH_take (i := 0) (v := _) rfl (by kernel_rfl) (by kernel_rfl) (by kernel_rfl) (fun _ _ _ h => h) (Or.inl ⟨by rfl, by intro w hSw; (try dsimp only at hSw); go_simp; try (with_reducible rfl)⟩) (by assumption) ?_
        try simp only [Act.put, List.setIfInBounds_toArray, List.set_cons_zero, List.set_cons_succ]
        refine wpAnyH_take (i := 1) (v := _) rfl (by kernel_rfl) (by kernel_rfl) (by kernel_rfl) (fun _ _ _ h => h) (Or.inl ⟨by rfl, by intro w hSw; (try dsimp only at hSw); go_simp; try (with_reducible rfl)⟩) (by assumption) ?_
        try simp only [Act.put, List.setIfInBounds_toArray, List.set_cons_zero, List.set_cons_succ]
        refine wpAnyH_take (i := 2) (v := _) rfl (by kernel_rfl) (by kernel_rfl) (by kernel_rfl) (fun _ _ _ h => h) (Or.inl ⟨by rfl, by intro w hSw; (try dsimp only at hSw); go_simp; try (with_reducible rfl)⟩) (by assumption) ?_
        try simp only [Act.put, List.setIfInBounds_toArray, List.set_cons_zero, List.set_cons_succ]
        refine wpAnyH_take (i := 3) (v := _) rfl (by kernel_rfl) (by kernel_rfl) (by kernel_rfl) (fun _ _ _ h => h) (Or.inl ⟨by rfl, by intro w hSw; (try dsimp only at hSw); go_simp; try (with_reducible rfl)⟩) (by assumption) ?_
        try simp only [Act.put, List.setIfInBounds_toArray, List.set_cons_zero, List.set_cons_succ]
        refine wpAnyH_ready (rs := [4, 5]) (by kernel_rfl) (by simp) ?_
        refine (AllReadyH.cons rfl (fun K hK => ?_) (AllReadyH.cons rfl (fun K hK => ?_) AllReadyH.nil))
        · skip
          go_simp
          have F1 := Lib.hid (F0.out.alloc #[.int .i64 0, .int .i64 0] 23)
          have lt10 : w.heap.size + 1 + 1 + 1 < vw0.heap.size := Has.lt (x := (w.heap.size + 1 + 1 + 1, #[.int .i64 t3, .int .i64 u3, .int .i64 v3, .int .i64 z3], 25)) F0.out (by simp)
          refine hK.out _ _ (XY.all (Has.xy F1.out (by simp))) (fun hHeld => ?_)
          clear hK K
          try simp only [Act.put, List.setIfInBounds_toArray, List.set_cons_zero, List.set_cons_succ]
          generalize vw0.alloc (.cells #[.int .i64 0, .int .i64 0] 23) = vw1 at *
          generalize vw0.heap.size = g10 at *
          refine wpAnyH_ready (rs := [5]) (by kernel_rfl) (by simp) ?_
          refine (AllReadyH.cons rfl (fun K hK => ?_) AllReadyH.nil)
          go_simp
          have F2 := Lib.hid (F1.out.alloc #[.int .i64 0, .int .i64 0] 23)
          have lt11 : w.heap.size + 1 + 1 + 1 < vw1.heap.size := Has.lt (x := (w.heap.size + 1 + 1 + 1, #[.int .i64 t3, .int .i64 u3, .int .i64 v3, .int .i64 z3], 25)) F1.out (by simp)
          have ne11 : g10 < vw1.heap.size := Has.lt (x := (g10, #[.int .i64 0, .int .i64 0], 23)) F1.out (by simp)
          refine hK.out _ _ (XY.all (Has.xy F2.out (by simp))) (fun hHeld => ?_)
          clear hK K
          try simp only [Act.put, List.setIfInBounds_toArray, List.set_cons_zero, List.set_cons_succ]
          generalize vw1.alloc (.cells #[.int .i64 0, .int .i64 0] 23) = vw2 at *
          generalize vw1.heap.size = g11 at *
          refine wpAnyH_ready (rs := [6]) (by kernel_rfl) (by simp) ?_
          refine (AllReadyH.cons rfl (fun K hK => ?_) AllReadyH.nil)
          obtain ⟨k0, k1, k4⟩ := Has.c2 (g := g10) (x := .int .i64 0) (y := .int .i64 0) (t := 23) F2.out (by simp)
          obtain ⟨k5, k6⟩ := frozen2 (F2.out.row (b := g10) (cs := #[.int .i64 0, .int .i64 0]) (t := 23) (by simp))
          go_simp
          have F3 := Lib.hid (Has.put2 (g := g10) (x := .int .i64 0) (y := .int .i64 0) (t := 23) (M := [(g11, #[.int .i64 0, .int .i64 0], 23), (w.heap.size + 1 + 1 + 1, #[.int .i64 t3, .int .i64 u3, .int .i64 v3, .int .i64 z3], 25), (w.heap.size + 1 + 1, #[.int .i64 0, .int .i64 0, .int .i64 0, .int .i64 0], 25), (w.heap.size + 1, #[.int .i64 p, .int .i64 q, .int .i64 r, .int .i64 s], 25), (w.heap.size, #[.int .i64 a, .int .i64 b, .int .i64 c, .int .i64 d], 25)]) F2.out (.int .i64 a) (.int .i64 b) (by simp) (by simp <;> omega))
          refine hK.out _ _ (XY.all (Has.xy F3.out (by simp))) (fun hHeld => ?_)
          clear hK K k0 k1 k4 k5 k6
          try simp only [Act.put, List.setIfInBounds_toArray, List.set_cons_zero, List.set_cons_succ]
          generalize (vw2.setCell ⟨g10, 0, none⟩ (.int .i64 a)).setCell ⟨g10, 1, none⟩ (.int .i64 b) = vw3 at *
          refine wpAnyH_ready (rs := [7]) (by kernel_rfl) (by simp) ?_
          refine (AllReadyH.cons rfl (fun K hK => ?_) AllReadyH.nil)
          obtain ⟨k0, k1, k4⟩ := Has.c2 (g := g11) (x := .int .i64 0) (y := .int .i64 0) (t := 23) F3.out (by simp)
          obtain ⟨k5, k6⟩ := frozen2 (F3.out.row (b := g11) (cs := #[.int .i64 0, .int .i64 0]) (t := 23) (by simp))
          go_simp
          have F4 := Lib.hid (Has.put2 (g := g11) (x := .int .i64 0) (y := .int .i64 0) (t := 23) (M := [(g10, #[.int .i64 a, .int .i64 b], 23), (w.heap.size + 1 + 1 + 1, #[.int .i64 t3, .int .i64 u3, .int .i64 v3, .int .i64 z3], 25), (w.heap.size + 1 + 1, #[.int .i64 0, .int .i64 0, .int .i64 0, .int .i64 0], 25), (w.heap.size + 1, #[.int .i64 p, .int .i64 q, .int .i64 r, .int .i64 s], 25), (w.heap.size, #[.int .i64 a, .int .i64 b, .int .i64 c, .int .i64 d], 25)]) F3.out (.int .i64 p) (.int .i64 q) (by simp) (by simp <;> omega))
          refine hK.out _ _ (XY.all (Has.xy F4.out (by simp))) (fun hHeld => ?_)
          clear hK K k0 k1 k4 k5 k6
          try simp only [Act.put, List.setIfInBounds_toArray, List.set_cons_zero, List.set_cons_succ]
          generalize (vw3.setCell ⟨g11, 0, none⟩ (.int .i64 p)).setCell ⟨g11, 1, none⟩ (.int .i64 q) = vw4 at *
          refine wpAnyH_done (by kernel_rfl) ?_ _
          go_wp2
          go_meet
          exact ⟨_, _, rfl, rfl, by omega, by omega, by omega, F4.out.sub (by intro x hx; simp only [List.mem_cons, List.not_mem_nil, or_false] at hx ⊢; rcases hx with h | h | h | h | h | h <;> simp [h])⟩
        · skip
          go_simp
          have F1 := Lib.hid (F0.out.alloc #[.int .i64 0, .int .i64 0] 23)
          have lt11 : w.heap.size + 1 + 1 + 1 < vw0.heap.size := Has.lt (x := (w.heap.size + 1 + 1 + 1, #[.int .i64 t3, .int .i64 u3, .int .i64 v3, .int .i64 z3], 25)) F0.out (by simp)
          refine hK.out _ _ (XY.all (Has.xy F1.out (by simp))) (fun hHeld => ?_)
          clear hK K
          try simp only [Act.put, List.setIfInBounds_toArray, List.set_cons_zero, List.set_cons_succ]
          generalize vw0.alloc (.cells #[.int .i64 0, .int .i64 0] 23) = vw1 at *
          generalize vw0.heap.size = g11 at *
          refine wpAnyH_ready (rs := [4]) (by kernel_rfl) (by simp) ?_
          refine (AllReadyH.cons rfl (fun K hK => ?_) AllReadyH.nil)
          go_simp
          have F2 := Lib.hid (F1.out.alloc #[.int .i64 0, .int .i64 0] 23)
          have lt10 : w.heap.size + 1 + 1 + 1 < vw1.heap.size := Has.lt (x := (w.heap.size + 1 + 1 + 1, #[.int .i64 t3, .int .i64 u3, .int .i64 v3, .int .i64 z3], 25)) F1.out (by simp)
          have ne10 : g11 < vw1.heap.size := Has.lt (x := (g11, #[.int .i64 0, .int .i64 0], 23)) F1.out (by simp)
          refine hK.out _ _ (XY.all (Has.xy F2.out (by simp))) (fun hHeld => ?_)
          clear hK K
          try simp only [Act.put, List.setIfInBounds_toArray, List.set_cons_zero, List.set_cons_succ]
          generalize vw1.alloc (.cells #[.int .i64 0, .int .i64 0] 23) = vw2 at *
          generalize vw1.heap.size = g10 at *
          refine wpAnyH_ready (rs := [6]) (by kernel_rfl) (by simp) ?_
          refine (AllReadyH.cons rfl (fun K hK => ?_) AllReadyH.nil)
          obtain ⟨k0, k1, k4⟩ := Has.c2 (g := g10) (x := .int .i64 0) (y := .int .i64 0) (t := 23) F2.out (by simp)
          obtain ⟨k5, k6⟩ := frozen2 (F2.out.row (b := g10) (cs := #[.int .i64 0, .int .i64 0]) (t := 23) (by simp))
          go_simp
          have F3 := Lib.hid (Has.put2 (g := g10) (x := .int .i64 0) (y := .int .i64 0) (t := 23) (M := [(g11, #[.int .i64 0, .int .i64 0], 23), (w.heap.size + 1 + 1 + 1, #[.int .i64 t3, .int .i64 u3, .int .i64 v3, .int .i64 z3], 25), (w.heap.size + 1 + 1, #[.int .i64 0, .int .i64 0, .int .i64 0, .int .i64 0], 25), (w.heap.size + 1, #[.int .i64 p, .int .i64 q, .int .i64 r, .int .i64 s], 25), (w.heap.size, #[.int .i64 a, .int .i64 b, .int .i64 c, .int .i64 d], 25)]) F2.out (.int .i64 a) (.int .i64 b) (by simp) (by simp <;> omega))
          refine hK.out _ _ (XY.all (Has.xy F3.out (by simp))) (fun hHeld => ?_)
          clear hK K k0 k1 k4 k5 k6
          try simp only [Act.put, List.setIfInBounds_toArray, List.set_cons_zero, List.set_cons_succ]
          generalize (vw2.setCell ⟨g10, 0, none⟩ (.int .i64 a)).setCell ⟨g10, 1, none⟩ (.int .i64 b) = vw3 at *
          refine wpAnyH_ready (rs := [7]) (by kernel_rfl) (by simp) ?_
          refine (AllReadyH.cons rfl (fun K hK => ?_) AllReadyH.nil)
          obtain ⟨k0, k1, k4⟩ := Has.c2 (g := g11) (x := .int .i64 0) (y := .int .i64 0) (t := 23) F3.out (by simp)
          obtain ⟨k5, k6⟩ := frozen2 (F3.out.row (b := g11) (cs := #[.int .i64 0, .int .i64 0]) (t := 23) (by simp))
          go_simp
          have F4 := Lib.hid (Has.put2 (g := g11) (x := .int .i64 0) (y := .int .i64 0) (t := 23) (M := [(g10, #[.int .i64 a, .int .i64 b], 23), (w.heap.size + 1 + 1 + 1, #[.int .i64 t3, .int .i64 u3, .int .i64 v3, .int .i64 z3], 25), (w.heap.size + 1 + 1, #[.int .i64 0, .int .i64 0, .int .i64 0, .int .i64 0], 25), (w.heap.size + 1, #[.int .i64 p, .int .i64 q, .int .i64 r, .int .i64 s], 25), (w.heap.size, #[.int .i64 a, .int .i64 b, .int .i64 c, .int .i64 d], 25)]) F3.out (.int .i64 p) (.int .i64 q) (by simp) (by simp <;> omega))
          refine hK.out _ _ (XY.all (Has.xy F4.out (by simp))) (fun hHeld => ?_)
          clear hK K k0 k1 k4 k5 k6
          try simp only [Act.put, List.setIfInBounds_toArray, List.set_cons_zero, List.set_cons_succ]
          generalize (vw3.setCell ⟨g11, 0, none⟩ (.int .i64 p)).setCell ⟨g11, 1, none⟩ (.int .i64 q) = vw4 at *
          refine wpAnyH_done (by kernel_rfl) ?_ _
          go_wp2
          go_meet
          exact ⟨_, _, rfl, rfl, by omega, by omega, by omega, F4.out.sub (by intro x hx; simp only [List.mem_cons, List.not_mem_nil, or_false] at hx ⊢; rcases hx with h | h | h | h | h | h <;> simp [h])⟩
      case rest =>
        obtain ⟨g10, g11, rfl, rfl, l10, l11, ne, hT⟩ := hcut
        have T2 := Lib.hid hT
        clear hT T1
        obtain ⟨h0, h1, h2, h3, h4⟩ := Has.c4 (g := w.heap.size) (x := .int .i64 a) (y := .int .i64 b) (z := .int .i64 c) (u := .int .i64 d) (t := 25) T2.out (by simp)
        obtain ⟨m0, m1, m4⟩ := Has.c2 (g := g10) (x := .int .i64 a) (y := .int .i64 b) (t := 23) T2.out (by simp)
        obtain ⟨m5, m6⟩ := frozen2 (T2.out.row (b := g10) (cs := #[.int .i64 a, .int .i64 b]) (t := 23) (by simp))
        have T3 := Lib.hid (Has.put2 (g := g10) (x := .int .i64 a) (y := .int .i64 b) (t := 23) (M := [(g11, #[.int .i64 p, .int .i64 q], 23), (w.heap.size + 1 + 1 + 1, #[.int .i64 t3, .int .i64 u3, .int .i64 v3, .int .i64 z3], 25), (w.heap.size + 1 + 1, #[.int .i64 0, .int .i64 0, .int .i64 0, .int .i64 0], 25), (w.heap.size + 1, #[.int .i64 p, .int .i64 q, .int .i64 r, .int .i64 s], 25), (w.heap.size, #[.int .i64 a, .int .i64 b, .int .i64 c, .int .i64 d], 25)]) T2.out (.int .i64 c) (.int .i64 d) (by simp) (by simp <;> omega))
        go_upto_region 8 with fail
        generalize (wc.setCell ⟨g10, 0, none⟩ (.int .i64 c)).setCell ⟨g10, 1, none⟩ (.int .i64 d) = yy3 at *
        clear T2 h0 h1 h2 h3 h4 m0 m1 m4 m5 m6
        obtain ⟨h0, h1, h2, h3, h4⟩ := Has.c4 (g := w.heap.size + 1) (x := .int .i64 p) (y := .int .i64 q) (z := .int .i64 r) (u := .int .i64 s) (t := 25) T3.out (by simp)
        obtain ⟨m0, m1, m4⟩ := Has.c2 (g := g11) (x := .int .i64 p) (y := .int .i64 q) (t := 23) T3.out (by simp)
        obtain ⟨m5, m6⟩ := frozen2 (T3.out.row (b := g11) (cs := #[.int .i64 p, .int .i64 q]) (t := 23) (by simp))
        have T4 := Lib.hid (Has.put2 (g := g11) (x := .int .i64 p) (y := .int .i64 q) (t := 23) (M := [(g10, #[.int .i64 c, .int .i64 d], 23), (w.heap.size + 1 + 1 + 1, #[.int .i64 t3, .int .i64 u3, .int .i64 v3, .int .i64 z3], 25), (w.heap.size + 1 + 1, #[.int .i64 0, .int .i64 0, .int .i64 0, .int .i64 0], 25), (w.heap.size + 1, #[.int .i64 p, .int .i64 q, .int .i64 r, .int .i64 s], 25), (w.heap.size, #[.int .i64 a, .int .i64 b, .int .i64 c, .int .i64 d], 25)]) T3.out (.int .i64 r) (.int .i64 s) (by simp) (by simp <;> omega))
        go_upto_region 10 with fail
        generalize (yy3.setCell ⟨g11, 0, none⟩ (.int .i64 r)).setCell ⟨g11, 1, none⟩ (.int .i64 s) = yy4 at *
        clear T3 h0 h1 h2 h3 h4 m0 m1 m4 m5 m6
        obtain ⟨m0, m1, m4⟩ := Has.c2 (g := g10) (x := .int .i64 c) (y := .int .i64 d) (t := 23) T4.out (by simp)
        obtain ⟨n0, n1, n4⟩ := Has.c2 (g := g11) (x := .int .i64 r) (y := .int .i64 s) (t := 23) T4.out (by simp)
        go_wp2_with fail
        with_reducible refine ((MX3.out) _).mono ?_
        rintro e w4 ⟨rfl, hb⟩
        have TA := Lib.hid ((T4.out.step hb).alloc #[.int .i64 mx3, .int .i64 my3] 23)
        have l12 : w.heap.size + 1 + 1 + 1 < w4.heap.size := Has.lt (x := (w.heap.size + 1 + 1 + 1, #[.int .i64 t3, .int .i64 u3, .int .i64 v3, .int .i64 z3], 25)) (T4.out.step hb) (by simp)
        clear hb T4 m0 m1 m4 n0 n1 n4
        go_upto_region 12 with fail
        generalize w4.alloc (.cells #[.int .i64 mx3, .int .i64 my3] 23) = yy6 at *
        generalize w4.heap.size = g12 at *
        obtain ⟨m0, m1, m4⟩ := Has.c2 (g := g10) (x := .int .i64 c) (y := .int .i64 d) (t := 23) TA.out (by simp)
        obtain ⟨n0, n1, n4⟩ := Has.c2 (g := g11) (x := .int .i64 r) (y := .int .i64 s) (t := 23) TA.out (by simp)
        go_wp2_with fail
        with_reducible refine ((MU3.out) _).mono ?_
        rintro e w5 ⟨rfl, hb⟩
        have TB := Lib.hid (TA.out.step hb)
        clear hb TA m0 m1 m4 n0 n1 n4
        obtain ⟨m0, m1, m4⟩ := Has.c2 (g := g12) (x := .int .i64 mx3) (y := .int .i64 my3) (t := 23) TB.out (by simp)
        obtain ⟨m5, m6⟩ := frozen2 (TB.out.row (b := g12) (cs := #[.int .i64 mx3, .int .i64 my3]) (t := 23) (by simp))
        have T5 := Lib.hid (Has.put2 (g := g12) (x := .int .i64 mx3) (y := .int .i64 my3) (t := 23) (M := [(w.heap.size + 1 + 1 + 1, #[.int .i64 t3, .int .i64 u3, .int .i64 v3, .int .i64 z3], 25), (w.heap.size + 1 + 1, #[.int .i64 0, .int .i64 0, .int .i64 0, .int .i64 0], 25), (w.heap.size + 1, #[.int .i64 p, .int .i64 q, .int .i64 r, .int .i64 s], 25), (w.heap.size, #[.int .i64 a, .int .i64 b, .int .i64 c, .int .i64 d], 25)]) TB.out (.int .i64 x3) (.int .i64 y3) (by simp) (by simp <;> omega))
        go_upto_region 13 with fail
        generalize (w5.setCell ⟨g12, 0, none⟩ (.int .i64 x3)).setCell ⟨g12, 1, none⟩ (.int .i64 y3) = yy5 at *
        clear TB m0 m1 m4 m5 m6
        by_cases he : e3 = 0
        · subst he
          obtain ⟨h0, h1, h2, h3, h4⟩ := Has.c4 (g := w.heap.size + 1 + 1 + 1) (x := .int .i64 t3) (y := .int .i64 u3) (z := .int .i64 v3) (u := .int .i64 z3) (t := 25) T5.out (by simp)
          obtain ⟨m0, m1, m4⟩ := Has.c2 (g := g12) (x := .int .i64 x3) (y := .int .i64 y3) (t := 23) T5.out (by simp)
          go_wp2_with fail
          with_reducible refine ((WI3.out) _).mono ?_
          rintro e w8 ⟨rfl, hb⟩
          have T8 := Lib.hid (T5.out.step hb)
          clear hb T5 h0 h1 h2 h3 h4 m0 m1 m4
          obtain ⟨h0, h1, h2, h3, h4⟩ := Has.c4 (g := w.heap.size + 1 + 1 + 1) (x := .int .i64 t3) (y := .int .i64 u3) (z := .int .i64 v3) (u := .int .i64 z3) (t := 25) T8.out (by simp)
          obtain ⟨h5, h6, h7, h8⟩ := Has.f4 (g := w.heap.size + 1 + 1 + 1) (cs := #[.int .i64 t3, .int .i64 u3, .int .i64 v3, .int .i64 z3]) (t := 25) T8.out (by simp)
          have T9 := Lib.hid (Has.put4 (g := w.heap.size + 1 + 1 + 1) (x := .int .i64 t3) (y := .int .i64 u3) (z := .int .i64 v3) (u := .int .i64 z3) (t := 25) (M := [(g12, #[.int .i64 x3, .int .i64 y3], 23), (w.heap.size + 1 + 1, #[.int .i64 0, .int .i64 0, .int .i64 0, .int .i64 0], 25), (w.heap.size + 1, #[.int .i64 p, .int .i64 q, .int .i64 r, .int .i64 s], 25), (w.heap.size, #[.int .i64 a, .int .i64 b, .int .i64 c, .int .i64 d], 25)]) T8.out (.int .i64 t4) (.int .i64 u4) (.int .i64 v4) (.int .i64 z4) (by simp) (by simp <;> omega))
          go_wp2
          go_roundw
          case rel => exact Or.inr (Or.inr (Or.inr (Or.inr (⟨(by first | rfl | trivial), H.out.1, H.out.2.1, H.out.2.2.1, (by first | rfl | trivial), T9.out.sub (by intro x hx; simp only [List.mem_cons, List.not_mem_nil, or_false] at hx ⊢; rcases hx with h | h | h | h <;> simp [h])⟩))))
          case measure => simp [intOf]
        · have RR := R3.out H.out.1 H.out.2.1 H.out.2.2.1 he
          obtain ⟨k0, k1, k2, k3, k4⟩ := Has.c4 (g := w.heap.size + 1 + 1) (x := .int .i64 0) (y := .int .i64 0) (z := .int .i64 0) (u := .int .i64 0) (t := 25) T5.out (by simp)
          obtain ⟨k5, k6, k7, k8⟩ := Has.f4 (g := w.heap.size + 1 + 1) (cs := #[.int .i64 0, .int .i64 0, .int .i64 0, .int .i64 0]) (t := 25) T5.out (by simp)
          have T6 := Lib.hid (Has.put4 (g := w.heap.size + 1 + 1) (x := .int .i64 0) (y := .int .i64 0) (z := .int .i64 0) (u := .int .i64 0) (t := 25) (M := [(w.heap.size + 1 + 1 + 1, #[.int .i64 t3, .int .i64 u3, .int .i64 v3, .int .i64 z3], 25), (w.heap.size + 1, #[.int .i64 p, .int .i64 q, .int .i64 r, .int .i64 s], 25), (w.heap.size, #[.int .i64 a, .int .i64 b, .int .i64 c, .int .i64 d], 25)]) T5.out (.int .i64 0) (.int .i64 0) (.int .i64 0) (.int .i64 0) (by simp) (by simp <;> omega))
          go_wp2
          refine bodyPost_ret (res_cell_tmp rfl _ _ (w.heap.size + 1 + 1) 25 #[.int .i64 0, .int .i64 0, .int .i64 0, .int .i64 0] (0, 0) _ rfl (T6.out.row (by simp)) Try.underlying25 rfl info25) rfl ?_
          exact ⟨by rw [RR]; first | done | rfl, T6.out.1⟩
    · skip
      have T1 := Lib.hid (H.out.2.2.2.2)
      obtain ⟨h0, h1, h2, h3, h4⟩ := Has.c4 (g := w.heap.size + 1 + 1 + 1) (x := .int .i64 t4) (y := .int .i64 u4) (z := .int .i64 v4) (u := .int .i64 z4) (t := 25) T1.out (by simp)
      obtain ⟨k0, k1, k2, k3, k4⟩ := Has.c4 (g := w.heap.size + 1 + 1) (x := .int .i64 0) (y := .int .i64 0) (z := .int .i64 0) (u := .int .i64 0) (t := 25) T1.out (by simp)
      obtain ⟨k5, k6, k7, k8⟩ := Has.f4 (g := w.heap.size + 1 + 1) (cs := #[.int .i64 0, .int .i64 0, .int .i64 0, .int .i64 0]) (t := 25) T1.out (by simp)
      have T2 := Lib.hid (Has.put4 (g := w.heap.size + 1 + 1) (x := .int .i64 0) (y := .int .i64 0) (z := .int .i64 0) (u := .int .i64 0) (t := 25) (M := [(w.heap.size + 1 + 1 + 1, #[.int .i64 t4, .int .i64 u4, .int .i64 v4, .int .i64 z4], 25), (w.heap.size + 1, #[.int .i64 p, .int .i64 q, .int .i64 r, .int .i64 s], 25), (w.heap.size, #[.int .i64 a, .int .i64 b, .int .i64 c, .int .i64 d], 25)]) T1.out (.int .i64 t4) (.int .i64 u4) (.int .i64 v4) (.int .i64 z4) (by simp) (by simp <;> omega))
      go_wp2
      refine bodyPost_ret (res_cell_tmp rfl _ _ (w.heap.size + 1 + 1) 25 #[.int .i64 t4, .int .i64 u4, .int .i64 v4, .int .i64 z4] (0, 0) _ rfl (T2.out.row (by simp)) Try.underlying25 rfl info25) rfl ?_
      exact ⟨by rw [R4.out H.out.1 H.out.2.1 H.out.2.2.1 H.out.2.2.2.1]; first | done | rfl, T2.out.1⟩
end Go.Proofs.Ytbiegbnncnjnmaa.Iv
