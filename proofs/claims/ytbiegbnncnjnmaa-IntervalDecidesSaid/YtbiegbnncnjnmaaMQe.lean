/- The least and the greatest of four fractions (slices.MinFunc, slices.MaxFunc). -/
import Derived.Test.YtbiegbnncnjnmaaMIg
set_option linter.unusedVariables false
set_option linter.unusedSimpArgs false
namespace Go.Proofs.Ytbiegbnncnjnmaa.Iv
open Go.RowKit
open Go.Proofs.Ytbiegbnncnjnmaa.Pro

/-- The least (the greatest) so far, in its box. -/
structure MX (w : World) (m1 m2 : Int) (V : World) : Prop where
  has : Has w [(w.heap.size + 1, #[.int .i64 m1, .int .i64 m2], 23), (w.heap.size, #[.int .i64 0, .int .i64 0], 23)] V
theorem MX.all {w V : World} {m1 m2 : Int} (h : MX w m1 m2 V) {g o o' : Nat} {x y : Value} (hg : g < w.heap.size) (E : w.cell? ⟨g, o, none⟩ = some x ∧ w.cell? ⟨g, o', none⟩ = some y) :
    MX w m1 m2 V ∧ (V.cell? ⟨w.heap.size + 1, 0, none⟩ = some (.int .i64 m1) ∧ V.cell? ⟨w.heap.size + 1, 1, none⟩ = some (.int .i64 m2)) ∧ V.cell? ⟨g, o, none⟩ = some x ∧ V.cell? ⟨g, o', none⟩ = some y := by
  have h1 := Has.c2 (g := w.heap.size + 1) (x := .int .i64 m1) (y := .int .i64 m2) (t := 23) h.has (by simp)
  exact ⟨h, ⟨h1.1, h1.2.1⟩, (h.has.1.cell (p := ⟨g, o, none⟩) hg).trans E.1, (h.has.1.cell (p := ⟨g, o', none⟩) hg).trans E.2⟩
set_option maxRecDepth 100000 in
set_option maxHeartbeats 4000000 in
theorem pminf_raw (g cap : Nat) (x0 y0 x1 y1 x2 y2 x3 y3 a1 b1 a2 b2 a3 b3 c1 c2 c3 : Int)
    (M1 : Hid (∀ w : World, Calls Try.prog 37 #[.agg #[.int .i64 x1, .int .i64 y1], .agg #[.int .i64 x0, .int .i64 y0]] w fun e w' => e = .returned (.int .i64 c1) ∧ Below w.heap.size w w'))
    (M2 : Hid (∀ w : World, Calls Try.prog 37 #[.agg #[.int .i64 x2, .int .i64 y2], .agg #[.int .i64 a1, .int .i64 b1]] w fun e w' => e = .returned (.int .i64 c2) ∧ Below w.heap.size w w'))
    (M3 : Hid (∀ w : World, Calls Try.prog 37 #[.agg #[.int .i64 x3, .int .i64 y3], .agg #[.int .i64 a2, .int .i64 b2]] w fun e w' => e = .returned (.int .i64 c3) ∧ Below w.heap.size w w'))
    (S1 : Hid ((c1 < 0 ∧ x1 = a1 ∧ y1 = b1) ∨ (¬ c1 < 0 ∧ x0 = a1 ∧ y0 = b1)))
    (S2 : Hid ((c2 < 0 ∧ x2 = a2 ∧ y2 = b2) ∨ (¬ c2 < 0 ∧ a1 = a2 ∧ b1 = b2)))
    (S3 : Hid ((c3 < 0 ∧ x3 = a3 ∧ y3 = b3) ∨ (¬ c3 < 0 ∧ a2 = a3 ∧ b2 = b3)))
    (w : World) (hg : g < w.heap.size)
    (E0 : Hid (w.cell? ⟨g, 0, none⟩ = some (.int .i64 x0) ∧ w.cell? ⟨g, 1, none⟩ = some (.int .i64 y0)))
    (E1 : Hid (w.cell? ⟨g, 2, none⟩ = some (.int .i64 x1) ∧ w.cell? ⟨g, 3, none⟩ = some (.int .i64 y1)))
    (E2 : Hid (w.cell? ⟨g, 4, none⟩ = some (.int .i64 x2) ∧ w.cell? ⟨g, 5, none⟩ = some (.int .i64 y2)))
    (E3 : Hid (w.cell? ⟨g, 6, none⟩ = some (.int .i64 x3) ∧ w.cell? ⟨g, 7, none⟩ = some (.int .i64 y3)))
    : Calls Try.prog 90 #[.slice (some ⟨g, 0, none⟩) 4 cap, .func (.func 37) #[] #[]] w fun e w' => e = .returned (.agg #[.int .i64 a3, .int .i64 b3]) ∧ Below w.heap.size w w' := by
  have T0 := Lib.hid ((Has.start w).alloc #[.int .i64 0, .int .i64 0] 23)
  have hg1 : g < w.heap.size + 1 := by omega
  go_enter Try.func90, Try.ntmps90
  obtain ⟨e0, e1⟩ : (w.alloc (.cells #[.int .i64 0, .int .i64 0] 23)).cell? ⟨g, 0, none⟩ = some (.int .i64 x0) ∧ (w.alloc (.cells #[.int .i64 0, .int .i64 0] 23)).cell? ⟨g, 1, none⟩ = some (.int .i64 y0) := ⟨(T0.out.1.cell (p := ⟨g, 0, none⟩) hg).trans E0.out.1, (T0.out.1.cell (p := ⟨g, 1, none⟩) hg).trans E0.out.2⟩
  have T1 := Lib.hid (T0.out.alloc #[.int .i64 x0, .int .i64 y0] 23)
  simp only [World.size_alloc] at T1
  go_upto_region 4 with fail
  clear e0 e1 T0
  generalize (w.alloc (.cells #[.int .i64 0, .int .i64 0] 23)).alloc (.cells #[.int .i64 x0, .int .i64 y0] 23) = W1 at *
  go_wp2_with fail
  go_loopw [6] (fun vi wr => (vi = .int .i64 1 ∧ Hid (Has w [(w.heap.size + 1, #[.int .i64 x0, .int .i64 y0], 23), (w.heap.size, #[.int .i64 0, .int .i64 0], 23)] wr)) ∨ (vi = .int .i64 2 ∧ Hid (Has w [(w.heap.size + 1, #[.int .i64 a1, .int .i64 b1], 23), (w.heap.size, #[.int .i64 0, .int .i64 0], 23)] wr)) ∨ (vi = .int .i64 3 ∧ Hid (Has w [(w.heap.size + 1, #[.int .i64 a2, .int .i64 b2], 23), (w.heap.size, #[.int .i64 0, .int .i64 0], 23)] wr)) ∨ (vi = .int .i64 4 ∧ Hid (Has w [(w.heap.size + 1, #[.int .i64 a3, .int .i64 b3], 23), (w.heap.size, #[.int .i64 0, .int .i64 0], 23)] wr))) (fun vi _ => (4 - intOf vi).toNat)
  case atStart => exact Or.inl ⟨rfl, T1⟩
  case round =>
    clear T1
    rcases hrel with ⟨rfl, H⟩ | ⟨rfl, H⟩ | ⟨rfl, H⟩ | ⟨rfl, H⟩
    · rcases S1.out with ⟨hc, rfl, rfl⟩ | ⟨hc, rfl, rfl⟩
      · skip
        go_upto_region 7 with fail
        have TD := Lib.hid H.out.drew
        refine wp_region_held_drew (S := (fun V => MX w x0 y0 V ∧ (V.cell? ⟨w.heap.size + 1, 0, none⟩ = some (.int .i64 x0) ∧ V.cell? ⟨w.heap.size + 1, 1, none⟩ = some (.int .i64 y0)) ∧ V.cell? ⟨g, 2, none⟩ = some (.int .i64 x1) ∧ V.cell? ⟨g, 3, none⟩ = some (.int .i64 y1))) (by kernel_rfl) (MX.all ⟨TD.out⟩ hg E1.out) (fun hHeld => ?_)
        refine wpAnyH_take (i := 0) (v := _) rfl (by kernel_rfl) (by kernel_rfl) (by kernel_rfl) (fun _ _ _ h => h) (Or.inl ⟨by rfl, by intro w hSw; (try dsimp only at hSw); go_simp; try (with_reducible rfl)⟩) (by assumption) ?_
        try simp only [Act.put, List.setIfInBounds_toArray, List.set_cons_zero, List.set_cons_succ]
        refine wpAnyH_take (i := 1) (v := _) rfl (by kernel_rfl) (by kernel_rfl) (by kernel_rfl) (fun _ _ _ h => h) (Or.inl ⟨by rfl, by intro w hSw; (try dsimp only at hSw); go_simp; try (with_reducible rfl)⟩) (by assumption) ?_
        try simp only [Act.put, List.setIfInBounds_toArray, List.set_cons_zero, List.set_cons_succ]
        refine wpAnyH_take (i := 2) (v := _) rfl (by kernel_rfl) (by kernel_rfl) (by kernel_rfl) (fun _ _ _ h => h) (Or.inl ⟨by rfl, by intro w hSw; (try dsimp only at hSw); go_simp; try (with_reducible rfl)⟩) (by assumption) ?_
        try simp only [Act.put, List.setIfInBounds_toArray, List.set_cons_zero, List.set_cons_succ]
        refine wpAnyH_take (i := 3) (v := _) rfl (by kernel_rfl) (by kernel_rfl) (by kernel_rfl) (fun _ _ _ h => h) (Or.inl ⟨by rfl, by intro w hSw; (try dsimp only at hSw); go_simp; try (with_reducible rfl)⟩) (by assumption) ?_
        try simp only [Act.put, List.setIfInBounds_toArray, List.set_cons_zero, List.set_cons_succ]
        refine wpAnyH_take (i := 4) (v := _) rfl (by kernel_rfl) (by kernel_rfl) (by kernel_rfl) (fun _ _ _ h => h) (Or.inl ⟨by rfl, by intro w hSw; (try dsimp only at hSw); go_simp; try (with_reducible rfl)⟩) (by assumption) ?_
        try simp only [Act.put, List.setIfInBounds_toArray, List.set_cons_zero, List.set_cons_succ]
        refine wpAnyH_take (i := 5) (v := _) rfl (by kernel_rfl) (by kernel_rfl) (by kernel_rfl) (fun _ _ _ h => h) (Or.inl ⟨by rfl, by intro w hSw; (try dsimp only at hSw); go_simp; try (with_reducible rfl)⟩) (by assumption) ?_
        try simp only [Act.put, List.setIfInBounds_toArray, List.set_cons_zero, List.set_cons_succ]
        refine wpAnyH_ready (rs := [6]) (by kernel_rfl) (by simp) ?_
        refine AllReadyH.cons rfl (fun K hK => ?_) AllReadyH.nil
        go_simp
        go_at_call 37
        with_reducible refine Calls.mono (M1.out _) ?_
        rintro e w5 ⟨rfl, hb⟩
        have F1 := Lib.hid (TD.out.step hb)
        clear hb
        refine hK.out _ _ (MX.all ⟨F1.out⟩ hg E1.out) (fun hHeld => ?_)
        clear hK K
        try simp only [Act.put, List.setIfInBounds_toArray, List.set_cons_zero, List.set_cons_succ]
        refine wpAnyH_take (i := 7) (v := _) rfl (by kernel_rfl) (by kernel_rfl) (by kernel_rfl) (fun _ _ _ h => h) (Or.inl ⟨by rfl, by intro w hSw; (try dsimp only at hSw); go_simp; try (with_reducible rfl)⟩) (by assumption) ?_
        try simp only [Act.put, List.setIfInBounds_toArray, List.set_cons_zero, List.set_cons_succ]
        refine wpAnyH_done (by kernel_rfl) ?_ _
        clear hHeld TD H
        obtain ⟨_, ⟨u0, u1⟩, u2, u3⟩ := MX.all ⟨F1.out⟩ hg E1.out
        obtain ⟨k0, k1, k4⟩ := Has.c2 (g := w.heap.size + 1) (x := .int .i64 x0) (y := .int .i64 y0) (t := 23) F1.out (by simp)
        obtain ⟨k5, k6⟩ := frozen2 (F1.out.row (b := w.heap.size + 1) (cs := #[.int .i64 x0, .int .i64 y0]) (t := 23) (by simp))
        have F2 := Lib.hid (Has.put2 (g := w.heap.size + 1) (x := .int .i64 x0) (y := .int .i64 y0) (t := 23) (M := [(w.heap.size, #[.int .i64 0, .int .i64 0], 23)]) F1.out (.int .i64 x1) (.int .i64 y1) (by simp) (by simp <;> omega))
        go_wp2
        go_roundw
        case rel => exact Or.inr (Or.inl ⟨(by first | rfl | trivial), F2⟩)
        case measure => simp [intOf]
      · skip
        go_upto_region 7 with fail
        have TD := Lib.hid H.out.drew
        refine wp_region_held_drew (S := (fun V => MX w x0 y0 V ∧ (V.cell? ⟨w.heap.size + 1, 0, none⟩ = some (.int .i64 x0) ∧ V.cell? ⟨w.heap.size + 1, 1, none⟩ = some (.int .i64 y0)) ∧ V.cell? ⟨g, 2, none⟩ = some (.int .i64 x1) ∧ V.cell? ⟨g, 3, none⟩ = some (.int .i64 y1))) (by kernel_rfl) (MX.all ⟨TD.out⟩ hg E1.out) (fun hHeld => ?_)
        refine wpAnyH_take (i := 0) (v := _) rfl (by kernel_rfl) (by kernel_rfl) (by kernel_rfl) (fun _ _ _ h => h) (Or.inl ⟨by rfl, by intro w hSw; (try dsimp only at hSw); go_simp; try (with_reducible rfl)⟩) (by assumption) ?_
        try simp only [Act.put, List.setIfInBounds_toArray, List.set_cons_zero, List.set_cons_succ]
        refine wpAnyH_take (i := 1) (v := _) rfl (by kernel_rfl) (by kernel_rfl) (by kernel_rfl) (fun _ _ _ h => h) (Or.inl ⟨by rfl, by intro w hSw; (try dsimp only at hSw); go_simp; try (with_reducible rfl)⟩) (by assumption) ?_
        try simp only [Act.put, List.setIfInBounds_toArray, List.set_cons_zero, List.set_cons_succ]
        refine wpAnyH_take (i := 2) (v := _) rfl (by kernel_rfl) (by kernel_rfl) (by kernel_rfl) (fun _ _ _ h => h) (Or.inl ⟨by rfl, by intro w hSw; (try dsimp only at hSw); go_simp; try (with_reducible rfl)⟩) (by assumption) ?_
        try simp only [Act.put, List.setIfInBounds_toArray, List.set_cons_zero, List.set_cons_succ]
        refine wpAnyH_take (i := 3) (v := _) rfl (by kernel_rfl) (by kernel_rfl) (by kernel_rfl) (fun _ _ _ h => h) (Or.inl ⟨by rfl, by intro w hSw; (try dsimp only at hSw); go_simp; try (with_reducible rfl)⟩) (by assumption) ?_
        try simp only [Act.put, List.setIfInBounds_toArray, List.set_cons_zero, List.set_cons_succ]
        refine wpAnyH_take (i := 4) (v := _) rfl (by kernel_rfl) (by kernel_rfl) (by kernel_rfl) (fun _ _ _ h => h) (Or.inl ⟨by rfl, by intro w hSw; (try dsimp only at hSw); go_simp; try (with_reducible rfl)⟩) (by assumption) ?_
        try simp only [Act.put, List.setIfInBounds_toArray, List.set_cons_zero, List.set_cons_succ]
        refine wpAnyH_take (i := 5) (v := _) rfl (by kernel_rfl) (by kernel_rfl) (by kernel_rfl) (fun _ _ _ h => h) (Or.inl ⟨by rfl, by intro w hSw; (try dsimp only at hSw); go_simp; try (with_reducible rfl)⟩) (by assumption) ?_
        try simp only [Act.put, List.setIfInBounds_toArray, List.set_cons_zero, List.set_cons_succ]
        refine wpAnyH_ready (rs := [6]) (by kernel_rfl) (by simp) ?_
        refine AllReadyH.cons rfl (fun K hK => ?_) AllReadyH.nil
        go_simp
        go_at_call 37
        with_reducible refine Calls.mono (M1.out _) ?_
        rintro e w5 ⟨rfl, hb⟩
        have F1 := Lib.hid (TD.out.step hb)
        clear hb
        refine hK.out _ _ (MX.all ⟨F1.out⟩ hg E1.out) (fun hHeld => ?_)
        clear hK K
        try simp only [Act.put, List.setIfInBounds_toArray, List.set_cons_zero, List.set_cons_succ]
        refine wpAnyH_take (i := 7) (v := _) rfl (by kernel_rfl) (by kernel_rfl) (by kernel_rfl) (fun _ _ _ h => h) (Or.inl ⟨by rfl, by intro w hSw; (try dsimp only at hSw); go_simp; try (with_reducible rfl)⟩) (by assumption) ?_
        try simp only [Act.put, List.setIfInBounds_toArray, List.set_cons_zero, List.set_cons_succ]
        refine wpAnyH_done (by kernel_rfl) ?_ _
        clear hHeld TD H
        obtain ⟨_, ⟨u0, u1⟩, u2, u3⟩ := MX.all ⟨F1.out⟩ hg E1.out
        go_wp2
        go_roundw
        case rel => exact Or.inr (Or.inl ⟨(by first | rfl | trivial), F1⟩)
        case measure => simp [intOf]
    · rcases S2.out with ⟨hc, rfl, rfl⟩ | ⟨hc, rfl, rfl⟩
      · skip
        go_upto_region 7 with fail
        have TD := Lib.hid H.out.drew
        refine wp_region_held_drew (S := (fun V => MX w a1 b1 V ∧ (V.cell? ⟨w.heap.size + 1, 0, none⟩ = some (.int .i64 a1) ∧ V.cell? ⟨w.heap.size + 1, 1, none⟩ = some (.int .i64 b1)) ∧ V.cell? ⟨g, 4, none⟩ = some (.int .i64 x2) ∧ V.cell? ⟨g, 5, none⟩ = some (.int .i64 y2))) (by kernel_rfl) (MX.all ⟨TD.out⟩ hg E2.out) (fun hHeld => ?_)
        refine wpAnyH_take (i := 0) (v := _) rfl (by kernel_rfl) (by kernel_rfl) (by kernel_rfl) (fun _ _ _ h => h) (Or.inl ⟨by rfl, by intro w hSw; (try dsimp only at hSw); go_simp; try (with_reducible rfl)⟩) (by assumption) ?_
        try simp only [Act.put, List.setIfInBounds_toArray, List.set_cons_zero, List.set_cons_succ]
        refine wpAnyH_take (i := 1) (v := _) rfl (by kernel_rfl) (by kernel_rfl) (by kernel_rfl) (fun _ _ _ h => h) (Or.inl ⟨by rfl, by intro w hSw; (try dsimp only at hSw); go_simp; try (with_reducible rfl)⟩) (by assumption) ?_
        try simp only [Act.put, List.setIfInBounds_toArray, List.set_cons_zero, List.set_cons_succ]
        refine wpAnyH_take (i := 2) (v := _) rfl (by kernel_rfl) (by kernel_rfl) (by kernel_rfl) (fun _ _ _ h => h) (Or.inl ⟨by rfl, by intro w hSw; (try dsimp only at hSw); go_simp; try (with_reducible rfl)⟩) (by assumption) ?_
        try simp only [Act.put, List.setIfInBounds_toArray, List.set_cons_zero, List.set_cons_succ]
        refine wpAnyH_take (i := 3) (v := _) rfl (by kernel_rfl) (by kernel_rfl) (by kernel_rfl) (fun _ _ _ h => h) (Or.inl ⟨by rfl, by intro w hSw; (try dsimp only at hSw); go_simp; try (with_reducible rfl)⟩) (by assumption) ?_
        try simp only [Act.put, List.setIfInBounds_toArray, List.set_cons_zero, List.set_cons_succ]
        refine wpAnyH_take (i := 4) (v := _) rfl (by kernel_rfl) (by kernel_rfl) (by kernel_rfl) (fun _ _ _ h => h) (Or.inl ⟨by rfl, by intro w hSw; (try dsimp only at hSw); go_simp; try (with_reducible rfl)⟩) (by assumption) ?_
        try simp only [Act.put, List.setIfInBounds_toArray, List.set_cons_zero, List.set_cons_succ]
        refine wpAnyH_take (i := 5) (v := _) rfl (by kernel_rfl) (by kernel_rfl) (by kernel_rfl) (fun _ _ _ h => h) (Or.inl ⟨by rfl, by intro w hSw; (try dsimp only at hSw); go_simp; try (with_reducible rfl)⟩) (by assumption) ?_
        try simp only [Act.put, List.setIfInBounds_toArray, List.set_cons_zero, List.set_cons_succ]
        refine wpAnyH_ready (rs := [6]) (by kernel_rfl) (by simp) ?_
        refine AllReadyH.cons rfl (fun K hK => ?_) AllReadyH.nil
        go_simp
        go_at_call 37
        with_reducible refine Calls.mono (M2.out _) ?_
        rintro e w5 ⟨rfl, hb⟩
        have F1 := Lib.hid (TD.out.step hb)
        clear hb
        refine hK.out _ _ (MX.all ⟨F1.out⟩ hg E2.out) (fun hHeld => ?_)
        clear hK K
        try simp only [Act.put, List.setIfInBounds_toArray, List.set_cons_zero, List.set_cons_succ]
        refine wpAnyH_take (i := 7) (v := _) rfl (by kernel_rfl) (by kernel_rfl) (by kernel_rfl) (fun _ _ _ h => h) (Or.inl ⟨by rfl, by intro w hSw; (try dsimp only at hSw); go_simp; try (with_reducible rfl)⟩) (by assumption) ?_
        try simp only [Act.put, List.setIfInBounds_toArray, List.set_cons_zero, List.set_cons_succ]
        refine wpAnyH_done (by kernel_rfl) ?_ _
        clear hHeld TD H
        obtain ⟨_, ⟨u0, u1⟩, u2, u3⟩ := MX.all ⟨F1.out⟩ hg E2.out
        obtain ⟨k0, k1, k4⟩ := Has.c2 (g := w.heap.size + 1) (x := .int .i64 a1) (y := .int .i64 b1) (t := 23) F1.out (by simp)
        obtain ⟨k5, k6⟩ := frozen2 (F1.out.row (b := w.heap.size + 1) (cs := #[.int .i64 a1, .int .i64 b1]) (t := 23) (by simp))
        have F2 := Lib.hid (Has.put2 (g := w.heap.size + 1) (x := .int .i64 a1) (y := .int .i64 b1) (t := 23) (M := [(w.heap.size, #[.int .i64 0, .int .i64 0], 23)]) F1.out (.int .i64 x2) (.int .i64 y2) (by simp) (by simp <;> omega))
        go_wp2
        go_roundw
        case rel => exact Or.inr (Or.inr (Or.inl ⟨(by first | rfl | trivial), F2⟩))
        case measure => simp [intOf]
      · skip
        go_upto_region 7 with fail
        have TD := Lib.hid H.out.drew
        refine wp_region_held_drew (S := (fun V => MX w a1 b1 V ∧ (V.cell? ⟨w.heap.size + 1, 0, none⟩ = some (.int .i64 a1) ∧ V.cell? ⟨w.heap.size + 1, 1, none⟩ = some (.int .i64 b1)) ∧ V.cell? ⟨g, 4, none⟩ = some (.int .i64 x2) ∧ V.cell? ⟨g, 5, none⟩ = some (.int .i64 y2))) (by kernel_rfl) (MX.all ⟨TD.out⟩ hg E2.out) (fun hHeld => ?_)
        refine wpAnyH_take (i := 0) (v := _) rfl (by kernel_rfl) (by kernel_rfl) (by kernel_rfl) (fun _ _ _ h => h) (Or.inl ⟨by rfl, by intro w hSw; (try dsimp only at hSw); go_simp; try (with_reducible rfl)⟩) (by assumption) ?_
        try simp only [Act.put, List.setIfInBounds_toArray, List.set_cons_zero, List.set_cons_succ]
        refine wpAnyH_take (i := 1) (v := _) rfl (by kernel_rfl) (by kernel_rfl) (by kernel_rfl) (fun _ _ _ h => h) (Or.inl ⟨by rfl, by intro w hSw; (try dsimp only at hSw); go_simp; try (with_reducible rfl)⟩) (by assumption) ?_
        try simp only [Act.put, List.setIfInBounds_toArray, List.set_cons_zero, List.set_cons_succ]
        refine wpAnyH_take (i := 2) (v := _) rfl (by kernel_rfl) (by kernel_rfl) (by kernel_rfl) (fun _ _ _ h => h) (Or.inl ⟨by rfl, by intro w hSw; (try dsimp only at hSw); go_simp; try (with_reducible rfl)⟩) (by assumption) ?_
        try simp only [Act.put, List.setIfInBounds_toArray, List.set_cons_zero, List.set_cons_succ]
        refine wpAnyH_take (i := 3) (v := _) rfl (by kernel_rfl) (by kernel_rfl) (by kernel_rfl) (fun _ _ _ h => h) (Or.inl ⟨by rfl, by intro w hSw; (try dsimp only at hSw); go_simp; try (with_reducible rfl)⟩) (by assumption) ?_
        try simp only [Act.put, List.setIfInBounds_toArray, List.set_cons_zero, List.set_cons_succ]
        refine wpAnyH_take (i := 4) (v := _) rfl (by kernel_rfl) (by kernel_rfl) (by kernel_rfl) (fun _ _ _ h => h) (Or.inl ⟨by rfl, by intro w hSw; (try dsimp only at hSw); go_simp; try (with_reducible rfl)⟩) (by assumption) ?_
        try simp only [Act.put, List.setIfInBounds_toArray, List.set_cons_zero, List.set_cons_succ]
        refine wpAnyH_take (i := 5) (v := _) rfl (by kernel_rfl) (by kernel_rfl) (by kernel_rfl) (fun _ _ _ h => h) (Or.inl ⟨by rfl, by intro w hSw; (try dsimp only at hSw); go_simp; try (with_reducible rfl)⟩) (by assumption) ?_
        try simp only [Act.put, List.setIfInBounds_toArray, List.set_cons_zero, List.set_cons_succ]
        refine wpAnyH_ready (rs := [6]) (by kernel_rfl) (by simp) ?_
        refine AllReadyH.cons rfl (fun K hK => ?_) AllReadyH.nil
        go_simp
        go_at_call 37
        with_reducible refine Calls.mono (M2.out _) ?_
        rintro e w5 ⟨rfl, hb⟩
        have F1 := Lib.hid (TD.out.step hb)
        clear hb
        refine hK.out _ _ (MX.all ⟨F1.out⟩ hg E2.out) (fun hHeld => ?_)
        clear hK K
        try simp only [Act.put, List.setIfInBounds_toArray, List.set_cons_zero, List.set_cons_succ]
        refine wpAnyH_take (i := 7) (v := _) rfl (by kernel_rfl) (by kernel_rfl) (by kernel_rfl) (fun _ _ _ h => h) (Or.inl ⟨by rfl, by intro w hSw; (try dsimp only at hSw); go_simp; try (with_reducible rfl)⟩) (by assumption) ?_
        try simp only [Act.put, List.setIfInBounds_toArray, List.set_cons_zero, List.set_cons_succ]
        refine wpAnyH_done (by kernel_rfl) ?_ _
        clear hHeld TD H
        obtain ⟨_, ⟨u0, u1⟩, u2, u3⟩ := MX.all ⟨F1.out⟩ hg E2.out
        go_wp2
        go_roundw
        case rel => exact Or.inr (Or.inr (Or.inl ⟨(by first | rfl | trivial), F1⟩))
        case measure => simp [intOf]
    · rcases S3.out with ⟨hc, rfl, rfl⟩ | ⟨hc, rfl, rfl⟩
      · skip
        go_upto_region 7 with fail
        have TD := Lib.hid H.out.drew
        refine wp_region_held_drew (S := (fun V => MX w a2 b2 V ∧ (V.cell? ⟨w.heap.size + 1, 0, none⟩ = some (.int .i64 a2) ∧ V.cell? ⟨w.heap.size + 1, 1, none⟩ = some (.int .i64 b2)) ∧ V.cell? ⟨g, 6, none⟩ = some (.int .i64 x3) ∧ V.cell? ⟨g, 7, none⟩ = some (.int .i64 y3))) (by kernel_rfl) (MX.all ⟨TD.out⟩ hg E3.out) (fun hHeld => ?_)
        refine wpAnyH_take (i := 0) (v := _) rfl (by kernel_rfl) (by kernel_rfl) (by kernel_rfl) (fun _ _ _ h => h) (Or.inl ⟨by rfl, by intro w hSw; (try dsimp only at hSw); go_simp; try (with_reducible rfl)⟩) (by assumption) ?_
        try simp only [Act.put, List.setIfInBounds_toArray, List.set_cons_zero, List.set_cons_succ]
        refine wpAnyH_take (i := 1) (v := _) rfl (by kernel_rfl) (by kernel_rfl) (by kernel_rfl) (fun _ _ _ h => h) (Or.inl ⟨by rfl, by intro w hSw; (try dsimp only at hSw); go_simp; try (with_reducible rfl)⟩) (by assumption) ?_
        try simp only [Act.put, List.setIfInBounds_toArray, List.set_cons_zero, List.set_cons_succ]
        refine wpAnyH_take (i := 2) (v := _) rfl (by kernel_rfl) (by kernel_rfl) (by kernel_rfl) (fun _ _ _ h => h) (Or.inl ⟨by rfl, by intro w hSw; (try dsimp only at hSw); go_simp; try (with_reducible rfl)⟩) (by assumption) ?_
        try simp only [Act.put, List.setIfInBounds_toArray, List.set_cons_zero, List.set_cons_succ]
        refine wpAnyH_take (i := 3) (v := _) rfl (by kernel_rfl) (by kernel_rfl) (by kernel_rfl) (fun _ _ _ h => h) (Or.inl ⟨by rfl, by intro w hSw; (try dsimp only at hSw); go_simp; try (with_reducible rfl)⟩) (by assumption) ?_
        try simp only [Act.put, List.setIfInBounds_toArray, List.set_cons_zero, List.set_cons_succ]
        refine wpAnyH_take (i := 4) (v := _) rfl (by kernel_rfl) (by kernel_rfl) (by kernel_rfl) (fun _ _ _ h => h) (Or.inl ⟨by rfl, by intro w hSw; (try dsimp only at hSw); go_simp; try (with_reducible rfl)⟩) (by assumption) ?_
        try simp only [Act.put, List.setIfInBounds_toArray, List.set_cons_zero, List.set_cons_succ]
        refine wpAnyH_take (i := 5) (v := _) rfl (by kernel_rfl) (by kernel_rfl) (by kernel_rfl) (fun _ _ _ h => h) (Or.inl ⟨by rfl, by intro w hSw; (try dsimp only at hSw); go_simp; try (with_reducible rfl)⟩) (by assumption) ?_
        try simp only [Act.put, List.setIfInBounds_toArray, List.set_cons_zero, List.set_cons_succ]
        refine wpAnyH_ready (rs := [6]) (by kernel_rfl) (by simp) ?_
        refine AllReadyH.cons rfl (fun K hK => ?_) AllReadyH.nil
        go_simp
        go_at_call 37
        with_reducible refine Calls.mono (M3.out _) ?_
        rintro e w5 ⟨rfl, hb⟩
        have F1 := Lib.hid (TD.out.step hb)
        clear hb
        refine hK.out _ _ (MX.all ⟨F1.out⟩ hg E3.out) (fun hHeld => ?_)
        clear hK K
        try simp only [Act.put, List.setIfInBounds_toArray, List.set_cons_zero, List.set_cons_succ]
        refine wpAnyH_take (i := 7) (v := _) rfl (by kernel_rfl) (by kernel_rfl) (by kernel_rfl) (fun _ _ _ h => h) (Or.inl ⟨by rfl, by intro w hSw; (try dsimp only at hSw); go_simp; try (with_reducible rfl)⟩) (by assumption) ?_
        try simp only [Act.put, List.setIfInBounds_toArray, List.set_cons_zero, List.set_cons_succ]
        refine wpAnyH_done (by kernel_rfl) ?_ _
        clear hHeld TD H
        obtain ⟨_, ⟨u0, u1⟩, u2, u3⟩ := MX.all ⟨F1.out⟩ hg E3.out
        obtain ⟨k0, k1, k4⟩ := Has.c2 (g := w.heap.size + 1) (x := .int .i64 a2) (y := .int .i64 b2) (t := 23) F1.out (by simp)
        obtain ⟨k5, k6⟩ := frozen2 (F1.out.row (b := w.heap.size + 1) (cs := #[.int .i64 a2, .int .i64 b2]) (t := 23) (by simp))
        have F2 := Lib.hid (Has.put2 (g := w.heap.size + 1) (x := .int .i64 a2) (y := .int .i64 b2) (t := 23) (M := [(w.heap.size, #[.int .i64 0, .int .i64 0], 23)]) F1.out (.int .i64 x3) (.int .i64 y3) (by simp) (by simp <;> omega))
        go_wp2
        go_roundw
        case rel => exact Or.inr (Or.inr (Or.inr (⟨(by first | rfl | trivial), F2⟩)))
        case measure => simp [intOf]
      · skip
        go_upto_region 7 with fail
        have TD := Lib.hid H.out.drew
        refine wp_region_held_drew (S := (fun V => MX w a2 b2 V ∧ (V.cell? ⟨w.heap.size + 1, 0, none⟩ = some (.int .i64 a2) ∧ V.cell? ⟨w.heap.size + 1, 1, none⟩ = some (.int .i64 b2)) ∧ V.cell? ⟨g, 6, none⟩ = some (.int .i64 x3) ∧ V.cell? ⟨g, 7, none⟩ = some (.int .i64 y3))) (by kernel_rfl) (MX.all ⟨TD.out⟩ hg E3.out) (fun hHeld => ?_)
        refine wpAnyH_take (i := 0) (v := _) rfl (by kernel_rfl) (by kernel_rfl) (by kernel_rfl) (fun _ _ _ h => h) (Or.inl ⟨by rfl, by intro w hSw; (try dsimp only at hSw); go_simp; try (with_reducible rfl)⟩) (by assumption) ?_
        try simp only [Act.put, List.setIfInBounds_toArray, List.set_cons_zero, List.set_cons_succ]
        refine wpAnyH_take (i := 1) (v := _) rfl (by kernel_rfl) (by kernel_rfl) (by kernel_rfl) (fun _ _ _ h => h) (Or.inl ⟨by rfl, by intro w hSw; (try dsimp only at hSw); go_simp; try (with_reducible rfl)⟩) (by assumption) ?_
        try simp only [Act.put, List.setIfInBounds_toArray, List.set_cons_zero, List.set_cons_succ]
        refine wpAnyH_take (i := 2) (v := _) rfl (by kernel_rfl) (by kernel_rfl) (by kernel_rfl) (fun _ _ _ h => h) (Or.inl ⟨by rfl, by intro w hSw; (try dsimp only at hSw); go_simp; try (with_reducible rfl)⟩) (by assumption) ?_
        try simp only [Act.put, List.setIfInBounds_toArray, List.set_cons_zero, List.set_cons_succ]
        refine wpAnyH_take (i := 3) (v := _) rfl (by kernel_rfl) (by kernel_rfl) (by kernel_rfl) (fun _ _ _ h => h) (Or.inl ⟨by rfl, by intro w hSw; (try dsimp only at hSw); go_simp; try (with_reducible rfl)⟩) (by assumption) ?_
        try simp only [Act.put, List.setIfInBounds_toArray, List.set_cons_zero, List.set_cons_succ]
        refine wpAnyH_take (i := 4) (v := _) rfl (by kernel_rfl) (by kernel_rfl) (by kernel_rfl) (fun _ _ _ h => h) (Or.inl ⟨by rfl, by intro w hSw; (try dsimp only at hSw); go_simp; try (with_reducible rfl)⟩) (by assumption) ?_
        try simp only [Act.put, List.setIfInBounds_toArray, List.set_cons_zero, List.set_cons_succ]
        refine wpAnyH_take (i := 5) (v := _) rfl (by kernel_rfl) (by kernel_rfl) (by kernel_rfl) (fun _ _ _ h => h) (Or.inl ⟨by rfl, by intro w hSw; (try dsimp only at hSw); go_simp; try (with_reducible rfl)⟩) (by assumption) ?_
        try simp only [Act.put, List.setIfInBounds_toArray, List.set_cons_zero, List.set_cons_succ]
        refine wpAnyH_ready (rs := [6]) (by kernel_rfl) (by simp) ?_
        refine AllReadyH.cons rfl (fun K hK => ?_) AllReadyH.nil
        go_simp
        go_at_call 37
        with_reducible refine Calls.mono (M3.out _) ?_
        rintro e w5 ⟨rfl, hb⟩
        have F1 := Lib.hid (TD.out.step hb)
        clear hb
        refine hK.out _ _ (MX.all ⟨F1.out⟩ hg E3.out) (fun hHeld => ?_)
        clear hK K
        try simp only [Act.put, List.setIfInBounds_toArray, List.set_cons_zero, List.set_cons_succ]
        refine wpAnyH_take (i := 7) (v := _) rfl (by kernel_rfl) (by kernel_rfl) (by kernel_rfl) (fun _ _ _ h => h) (Or.inl ⟨by rfl, by intro w hSw; (try dsimp only at hSw); go_simp; try (with_reducible rfl)⟩) (by assumption) ?_
        try simp only [Act.put, List.setIfInBounds_toArray, List.set_cons_zero, List.set_cons_succ]
        refine wpAnyH_done (by kernel_rfl) ?_ _
        clear hHeld TD H
        obtain ⟨_, ⟨u0, u1⟩, u2, u3⟩ := MX.all ⟨F1.out⟩ hg E3.out
        go_wp2
        go_roundw
        case rel => exact Or.inr (Or.inr (Or.inr (⟨(by first | rfl | trivial), F1⟩)))
        case measure => simp [intOf]
    · obtain ⟨u0, u1, u4⟩ := Has.c2 (g := w.heap.size + 1) (x := .int .i64 a3) (y := .int .i64 b3) (t := 23) H.out (by simp)
      obtain ⟨k0, k1, k4⟩ := Has.c2 (g := w.heap.size) (x := .int .i64 0) (y := .int .i64 0) (t := 23) H.out (by simp)
      obtain ⟨k5, k6⟩ := frozen2 (H.out.row (b := w.heap.size) (cs := #[.int .i64 0, .int .i64 0]) (t := 23) (by simp))
      have F2 := Lib.hid (Has.put2 (g := w.heap.size) (x := .int .i64 0) (y := .int .i64 0) (t := 23) (M := []) H.out (.int .i64 a3) (.int .i64 b3) (by simp) (by simp))
      go_wp2
      refine bodyPost_ret (results_cell_row rfl _ _ w.heap.size 23 #[.int .i64 a3, .int .i64 b3] (0, 0) _ rfl (F2.out.row (by simp)) Try.underlying23 rfl info23) rfl ?_
      exact ⟨rfl, F2.out.1⟩
set_option maxRecDepth 100000 in
set_option maxHeartbeats 4000000 in
theorem pmaxf_raw (g cap : Nat) (x0 y0 x1 y1 x2 y2 x3 y3 a1 b1 a2 b2 a3 b3 c1 c2 c3 : Int)
    (M1 : Hid (∀ w : World, Calls Try.prog 37 #[.agg #[.int .i64 x1, .int .i64 y1], .agg #[.int .i64 x0, .int .i64 y0]] w fun e w' => e = .returned (.int .i64 c1) ∧ Below w.heap.size w w'))
    (M2 : Hid (∀ w : World, Calls Try.prog 37 #[.agg #[.int .i64 x2, .int .i64 y2], .agg #[.int .i64 a1, .int .i64 b1]] w fun e w' => e = .returned (.int .i64 c2) ∧ Below w.heap.size w w'))
    (M3 : Hid (∀ w : World, Calls Try.prog 37 #[.agg #[.int .i64 x3, .int .i64 y3], .agg #[.int .i64 a2, .int .i64 b2]] w fun e w' => e = .returned (.int .i64 c3) ∧ Below w.heap.size w w'))
    (S1 : Hid ((0 < c1 ∧ x1 = a1 ∧ y1 = b1) ∨ (¬ 0 < c1 ∧ x0 = a1 ∧ y0 = b1)))
    (S2 : Hid ((0 < c2 ∧ x2 = a2 ∧ y2 = b2) ∨ (¬ 0 < c2 ∧ a1 = a2 ∧ b1 = b2)))
    (S3 : Hid ((0 < c3 ∧ x3 = a3 ∧ y3 = b3) ∨ (¬ 0 < c3 ∧ a2 = a3 ∧ b2 = b3)))
    (w : World) (hg : g < w.heap.size)
    (E0 : Hid (w.cell? ⟨g, 0, none⟩ = some (.int .i64 x0) ∧ w.cell? ⟨g, 1, none⟩ = some (.int .i64 y0)))
    (E1 : Hid (w.cell? ⟨g, 2, none⟩ = some (.int .i64 x1) ∧ w.cell? ⟨g, 3, none⟩ = some (.int .i64 y1)))
    (E2 : Hid (w.cell? ⟨g, 4, none⟩ = some (.int .i64 x2) ∧ w.cell? ⟨g, 5, none⟩ = some (.int .i64 y2)))
    (E3 : Hid (w.cell? ⟨g, 6, none⟩ = some (.int .i64 x3) ∧ w.cell? ⟨g, 7, none⟩ = some (.int .i64 y3)))
    : Calls Try.prog 91 #[.slice (some ⟨g, 0, none⟩) 4 cap, .func (.func 37) #[] #[]] w fun e w' => e = .returned (.agg #[.int .i64 a3, .int .i64 b3]) ∧ Below w.heap.size w w' := by
  have T0 := Lib.hid ((Has.start w).alloc #[.int .i64 0, .int .i64 0] 23)
  have hg1 : g < w.heap.size + 1 := by omega
  go_enter Try.func91, Try.ntmps91
  obtain ⟨e0, e1⟩ : (w.alloc (.cells #[.int .i64 0, .int .i64 0] 23)).cell? ⟨g, 0, none⟩ = some (.int .i64 x0) ∧ (w.alloc (.cells #[.int .i64 0, .int .i64 0] 23)).cell? ⟨g, 1, none⟩ = some (.int .i64 y0) := ⟨(T0.out.1.cell (p := ⟨g, 0, none⟩) hg).trans E0.out.1, (T0.out.1.cell (p := ⟨g, 1, none⟩) hg).trans E0.out.2⟩
  have T1 := Lib.hid (T0.out.alloc #[.int .i64 x0, .int .i64 y0] 23)
  simp only [World.size_alloc] at T1
  go_upto_region 4 with fail
  clear e0 e1 T0
  generalize (w.alloc (.cells #[.int .i64 0, .int .i64 0] 23)).alloc (.cells #[.int .i64 x0, .int .i64 y0] 23) = W1 at *
  go_wp2_with fail
  go_loopw [6] (fun vi wr => (vi = .int .i64 1 ∧ Hid (Has w [(w.heap.size + 1, #[.int .i64 x0, .int .i64 y0], 23), (w.heap.size, #[.int .i64 0, .int .i64 0], 23)] wr)) ∨ (vi = .int .i64 2 ∧ Hid (Has w [(w.heap.size + 1, #[.int .i64 a1, .int .i64 b1], 23), (w.heap.size, #[.int .i64 0, .int .i64 0], 23)] wr)) ∨ (vi = .int .i64 3 ∧ Hid (Has w [(w.heap.size + 1, #[.int .i64 a2, .int .i64 b2], 23), (w.heap.size, #[.int .i64 0, .int .i64 0], 23)] wr)) ∨ (vi = .int .i64 4 ∧ Hid (Has w [(w.heap.size + 1, #[.int .i64 a3, .int .i64 b3], 23), (w.heap.size, #[.int .i64 0, .int .i64 0], 23)] wr))) (fun vi _ => (4 - intOf vi).toNat)
  case atStart => exact Or.inl ⟨rfl, T1⟩
  case round =>
    clear T1
    rcases hrel with ⟨rfl, H⟩ | ⟨rfl, H⟩ | ⟨rfl, H⟩ | ⟨rfl, H⟩
    · rcases S1.out with ⟨hc, rfl, rfl⟩ | ⟨hc, rfl, rfl⟩
      · skip
        go_upto_region 7 with fail
        have TD := Lib.hid H.out.drew
        refine wp_region_held_drew (S := (fun V => MX w x0 y0 V ∧ (V.cell? ⟨w.heap.size + 1, 0, none⟩ = some (.int .i64 x0) ∧ V.cell? ⟨w.heap.size + 1, 1, none⟩ = some (.int .i64 y0)) ∧ V.cell? ⟨g, 2, none⟩ = some (.int .i64 x1) ∧ V.cell? ⟨g, 3, none⟩ = some (.int .i64 y1))) (by kernel_rfl) (MX.all ⟨TD.out⟩ hg E1.out) (fun hHeld => ?_)
        refine wpAnyH_take (i := 0) (v := _) rfl (by kernel_rfl) (by kernel_rfl) (by kernel_rfl) (fun _ _ _ h => h) (Or.inl ⟨by rfl, by intro w hSw; (try dsimp only at hSw); go_simp; try (with_reducible rfl)⟩) (by assumption) ?_
        try simp only [Act.put, List.setIfInBounds_toArray, List.set_cons_zero, List.set_cons_succ]
        refine wpAnyH_take (i := 1) (v := _) rfl (by kernel_rfl) (by kernel_rfl) (by kernel_rfl) (fun _ _ _ h => h) (Or.inl ⟨by rfl, by intro w hSw; (try dsimp only at hSw); go_simp; try (with_reducible rfl)⟩) (by assumption) ?_
        try simp only [Act.put, List.setIfInBounds_toArray, List.set_cons_zero, List.set_cons_succ]
        refine wpAnyH_take (i := 2) (v := _) rfl (by kernel_rfl) (by kernel_rfl) (by kernel_rfl) (fun _ _ _ h => h) (Or.inl ⟨by rfl, by intro w hSw; (try dsimp only at hSw); go_simp; try (with_reducible rfl)⟩) (by assumption) ?_
        try simp only [Act.put, List.setIfInBounds_toArray, List.set_cons_zero, List.set_cons_succ]
        refine wpAnyH_take (i := 3) (v := _) rfl (by kernel_rfl) (by kernel_rfl) (by kernel_rfl) (fun _ _ _ h => h) (Or.inl ⟨by rfl, by intro w hSw; (try dsimp only at hSw); go_simp; try (with_reducible rfl)⟩) (by assumption) ?_
        try simp only [Act.put, List.setIfInBounds_toArray, List.set_cons_zero, List.set_cons_succ]
        refine wpAnyH_take (i := 4) (v := _) rfl (by kernel_rfl) (by kernel_rfl) (by kernel_rfl) (fun _ _ _ h => h) (Or.inl ⟨by rfl, by intro w hSw; (try dsimp only at hSw); go_simp; try (with_reducible rfl)⟩) (by assumption) ?_
        try simp only [Act.put, List.setIfInBounds_toArray, List.set_cons_zero, List.set_cons_succ]
        refine wpAnyH_take (i := 5) (v := _) rfl (by kernel_rfl) (by kernel_rfl) (by kernel_rfl) (fun _ _ _ h => h) (Or.inl ⟨by rfl, by intro w hSw; (try dsimp only at hSw); go_simp; try (with_reducible rfl)⟩) (by assumption) ?_
        try simp only [Act.put, List.setIfInBounds_toArray, List.set_cons_zero, List.set_cons_succ]
        refine wpAnyH_ready (rs := [6]) (by kernel_rfl) (by simp) ?_
        refine AllReadyH.cons rfl (fun K hK => ?_) AllReadyH.nil
        go_simp
        go_at_call 37
        with_reducible refine Calls.mono (M1.out _) ?_
        rintro e w5 ⟨rfl, hb⟩
        have F1 := Lib.hid (TD.out.step hb)
        clear hb
        refine hK.out _ _ (MX.all ⟨F1.out⟩ hg E1.out) (fun hHeld => ?_)
        clear hK K
        try simp only [Act.put, List.setIfInBounds_toArray, List.set_cons_zero, List.set_cons_succ]
        refine wpAnyH_take (i := 7) (v := _) rfl (by kernel_rfl) (by kernel_rfl) (by kernel_rfl) (fun _ _ _ h => h) (Or.inl ⟨by rfl, by intro w hSw; (try dsimp only at hSw); go_simp; try (with_reducible rfl)⟩) (by assumption) ?_
        try simp only [Act.put, List.setIfInBounds_toArray, List.set_cons_zero, List.set_cons_succ]
        refine wpAnyH_done (by kernel_rfl) ?_ _
        clear hHeld TD H
        obtain ⟨_, ⟨u0, u1⟩, u2, u3⟩ := MX.all ⟨F1.out⟩ hg E1.out
        obtain ⟨k0, k1, k4⟩ := Has.c2 (g := w.heap.size + 1) (x := .int .i64 x0) (y := .int .i64 y0) (t := 23) F1.out (by simp)
        obtain ⟨k5, k6⟩ := frozen2 (F1.out.row (b := w.heap.size + 1) (cs := #[.int .i64 x0, .int .i64 y0]) (t := 23) (by simp))
        have F2 := Lib.hid (Has.put2 (g := w.heap.size + 1) (x := .int .i64 x0) (y := .int .i64 y0) (t := 23) (M := [(w.heap.size, #[.int .i64 0, .int .i64 0], 23)]) F1.out (.int .i64 x1) (.int .i64 y1) (by simp) (by simp <;> omega))
        go_wp2
        go_roundw
        case rel => exact Or.inr (Or.inl ⟨(by first | rfl | trivial), F2⟩)
        case measure => simp [intOf]
      · skip
        go_upto_region 7 with fail
        have TD := Lib.hid H.out.drew
        refine wp_region_held_drew (S := (fun V => MX w x0 y0 V ∧ (V.cell? ⟨w.heap.size + 1, 0, none⟩ = some (.int .i64 x0) ∧ V.cell? ⟨w.heap.size + 1, 1, none⟩ = some (.int .i64 y0)) ∧ V.cell? ⟨g, 2, none⟩ = some (.int .i64 x1) ∧ V.cell? ⟨g, 3, none⟩ = some (.int .i64 y1))) (by kernel_rfl) (MX.all ⟨TD.out⟩ hg E1.out) (fun hHeld => ?_)
        refine wpAnyH_take (i := 0) (v := _) rfl (by kernel_rfl) (by kernel_rfl) (by kernel_rfl) (fun _ _ _ h => h) (Or.inl ⟨by rfl, by intro w hSw; (try dsimp only at hSw); go_simp; try (with_reducible rfl)⟩) (by assumption) ?_
        try simp only [Act.put, List.setIfInBounds_toArray, List.set_cons_zero, List.set_cons_succ]
        refine wpAnyH_take (i := 1) (v := _) rfl (by kernel_rfl) (by kernel_rfl) (by kernel_rfl) (fun _ _ _ h => h) (Or.inl ⟨by rfl, by intro w hSw; (try dsimp only at hSw); go_simp; try (with_reducible rfl)⟩) (by assumption) ?_
        try simp only [Act.put, List.setIfInBounds_toArray, List.set_cons_zero, List.set_cons_succ]
        refine wpAnyH_take (i := 2) (v := _) rfl (by kernel_rfl) (by kernel_rfl) (by kernel_rfl) (fun _ _ _ h => h) (Or.inl ⟨by rfl, by intro w hSw; (try dsimp only at hSw); go_simp; try (with_reducible rfl)⟩) (by assumption) ?_
        try simp only [Act.put, List.setIfInBounds_toArray, List.set_cons_zero, List.set_cons_succ]
        refine wpAnyH_take (i := 3) (v := _) rfl (by kernel_rfl) (by kernel_rfl) (by kernel_rfl) (fun _ _ _ h => h) (Or.inl ⟨by rfl, by intro w hSw; (try dsimp only at hSw); go_simp; try (with_reducible rfl)⟩) (by assumption) ?_
        try simp only [Act.put, List.setIfInBounds_toArray, List.set_cons_zero, List.set_cons_succ]
        refine wpAnyH_take (i := 4) (v := _) rfl (by kernel_rfl) (by kernel_rfl) (by kernel_rfl) (fun _ _ _ h => h) (Or.inl ⟨by rfl, by intro w hSw; (try dsimp only at hSw); go_simp; try (with_reducible rfl)⟩) (by assumption) ?_
        try simp only [Act.put, List.setIfInBounds_toArray, List.set_cons_zero, List.set_cons_succ]
        refine wpAnyH_take (i := 5) (v := _) rfl (by kernel_rfl) (by kernel_rfl) (by kernel_rfl) (fun _ _ _ h => h) (Or.inl ⟨by rfl, by intro w hSw; (try dsimp only at hSw); go_simp; try (with_reducible rfl)⟩) (by assumption) ?_
        try simp only [Act.put, List.setIfInBounds_toArray, List.set_cons_zero, List.set_cons_succ]
        refine wpAnyH_ready (rs := [6]) (by kernel_rfl) (by simp) ?_
        refine AllReadyH.cons rfl (fun K hK => ?_) AllReadyH.nil
        go_simp
        go_at_call 37
        with_reducible refine Calls.mono (M1.out _) ?_
        rintro e w5 ⟨rfl, hb⟩
        have F1 := Lib.hid (TD.out.step hb)
        clear hb
        refine hK.out _ _ (MX.all ⟨F1.out⟩ hg E1.out) (fun hHeld => ?_)
        clear hK K
        try simp only [Act.put, List.setIfInBounds_toArray, List.set_cons_zero, List.set_cons_succ]
        refine wpAnyH_take (i := 7) (v := _) rfl (by kernel_rfl) (by kernel_rfl) (by kernel_rfl) (fun _ _ _ h => h) (Or.inl ⟨by rfl, by intro w hSw; (try dsimp only at hSw); go_simp; try (with_reducible rfl)⟩) (by assumption) ?_
        try simp only [Act.put, List.setIfInBounds_toArray, List.set_cons_zero, List.set_cons_succ]
        refine wpAnyH_done (by kernel_rfl) ?_ _
        clear hHeld TD H
        obtain ⟨_, ⟨u0, u1⟩, u2, u3⟩ := MX.all ⟨F1.out⟩ hg E1.out
        go_wp2
        go_roundw
        case rel => exact Or.inr (Or.inl ⟨(by first | rfl | trivial), F1⟩)
        case measure => simp [intOf]
    · rcases S2.out with ⟨hc, rfl, rfl⟩ | ⟨hc, rfl, rfl⟩
      · skip
        go_upto_region 7 with fail
        have TD := Lib.hid H.out.drew
        refine wp_region_held_drew (S := (fun V => MX w a1 b1 V ∧ (V.cell? ⟨w.heap.size + 1, 0, none⟩ = some (.int .i64 a1) ∧ V.cell? ⟨w.heap.size + 1, 1, none⟩ = some (.int .i64 b1)) ∧ V.cell? ⟨g, 4, none⟩ = some (.int .i64 x2) ∧ V.cell? ⟨g, 5, none⟩ = some (.int .i64 y2))) (by kernel_rfl) (MX.all ⟨TD.out⟩ hg E2.out) (fun hHeld => ?_)
        refine wpAnyH_take (i := 0) (v := _) rfl (by kernel_rfl) (by kernel_rfl) (by kernel_rfl) (fun _ _ _ h => h) (Or.inl ⟨by rfl, by intro w hSw; (try dsimp only at hSw); go_simp; try (with_reducible rfl)⟩) (by assumption) ?_
        try simp only [Act.put, List.setIfInBounds_toArray, List.set_cons_zero, List.set_cons_succ]
        refine wpAnyH_take (i := 1) (v := _) rfl (by kernel_rfl) (by kernel_rfl) (by kernel_rfl) (fun _ _ _ h => h) (Or.inl ⟨by rfl, by intro w hSw; (try dsimp only at hSw); go_simp; try (with_reducible rfl)⟩) (by assumption) ?_
        try simp only [Act.put, List.setIfInBounds_toArray, List.set_cons_zero, List.set_cons_succ]
        refine wpAnyH_take (i := 2) (v := _) rfl (by kernel_rfl) (by kernel_rfl) (by kernel_rfl) (fun _ _ _ h => h) (Or.inl ⟨by rfl, by intro w hSw; (try dsimp only at hSw); go_simp; try (with_reducible rfl)⟩) (by assumption) ?_
        try simp only [Act.put, List.setIfInBounds_toArray, List.set_cons_zero, List.set_cons_succ]
        refine wpAnyH_take (i := 3) (v := _) rfl (by kernel_rfl) (by kernel_rfl) (by kernel_rfl) (fun _ _ _ h => h) (Or.inl ⟨by rfl, by intro w hSw; (try dsimp only at hSw); go_simp; try (with_reducible rfl)⟩) (by assumption) ?_
        try simp only [Act.put, List.setIfInBounds_toArray, List.set_cons_zero, List.set_cons_succ]
        refine wpAnyH_take (i := 4) (v := _) rfl (by kernel_rfl) (by kernel_rfl) (by kernel_rfl) (fun _ _ _ h => h) (Or.inl ⟨by rfl, by intro w hSw; (try dsimp only at hSw); go_simp; try (with_reducible rfl)⟩) (by assumption) ?_
        try simp only [Act.put, List.setIfInBounds_toArray, List.set_cons_zero, List.set_cons_succ]
        refine wpAnyH_take (i := 5) (v := _) rfl (by kernel_rfl) (by kernel_rfl) (by kernel_rfl) (fun _ _ _ h => h) (Or.inl ⟨by rfl, by intro w hSw; (try dsimp only at hSw); go_simp; try (with_reducible rfl)⟩) (by assumption) ?_
        try simp only [Act.put, List.setIfInBounds_toArray, List.set_cons_zero, List.set_cons_succ]
        refine wpAnyH_ready (rs := [6]) (by kernel_rfl) (by simp) ?_
        refine AllReadyH.cons rfl (fun K hK => ?_) AllReadyH.nil
        go_simp
        go_at_call 37
        with_reducible refine Calls.mono (M2.out _) ?_
        rintro e w5 ⟨rfl, hb⟩
        have F1 := Lib.hid (TD.out.step hb)
        clear hb
        refine hK.out _ _ (MX.all ⟨F1.out⟩ hg E2.out) (fun hHeld => ?_)
        clear hK K
        try simp only [Act.put, List.setIfInBounds_toArray, List.set_cons_zero, List.set_cons_succ]
        refine wpAnyH_take (i := 7) (v := _) rfl (by kernel_rfl) (by kernel_rfl) (by kernel_rfl) (fun _ _ _ h => h) (Or.inl ⟨by rfl, by intro w hSw; (try dsimp only at hSw); go_simp; try (with_reducible rfl)⟩) (by assumption) ?_
        try simp only [Act.put, List.setIfInBounds_toArray, List.set_cons_zero, List.set_cons_succ]
        refine wpAnyH_done (by kernel_rfl) ?_ _
        clear hHeld TD H
        obtain ⟨_, ⟨u0, u1⟩, u2, u3⟩ := MX.all ⟨F1.out⟩ hg E2.out
        obtain ⟨k0, k1, k4⟩ := Has.c2 (g := w.heap.size + 1) (x := .int .i64 a1) (y := .int .i64 b1) (t := 23) F1.out (by simp)
        obtain ⟨k5, k6⟩ := frozen2 (F1.out.row (b := w.heap.size + 1) (cs := #[.int .i64 a1, .int .i64 b1]) (t := 23) (by simp))
        have F2 := Lib.hid (Has.put2 (g := w.heap.size + 1) (x := .int .i64 a1) (y := .int .i64 b1) (t := 23) (M := [(w.heap.size, #[.int .i64 0, .int .i64 0], 23)]) F1.out (.int .i64 x2) (.int .i64 y2) (by simp) (by simp <;> omega))
        go_wp2
        go_roundw
        case rel => exact Or.inr (Or.inr (Or.inl ⟨(by first | rfl | trivial), F2⟩))
        case measure => simp [intOf]
      · skip
        go_upto_region 7 with fail
        have TD := Lib.hid H.out.drew
        refine wp_region_held_drew (S := (fun V => MX w a1 b1 V ∧ (V.cell? ⟨w.heap.size + 1, 0, none⟩ = some (.int .i64 a1) ∧ V.cell? ⟨w.heap.size + 1, 1, none⟩ = some (.int .i64 b1)) ∧ V.cell? ⟨g, 4, none⟩ = some (.int .i64 x2) ∧ V.cell? ⟨g, 5, none⟩ = some (.int .i64 y2))) (by kernel_rfl) (MX.all ⟨TD.out⟩ hg E2.out) (fun hHeld => ?_)
        refine wpAnyH_take (i := 0) (v := _) rfl (by kernel_rfl) (by kernel_rfl) (by kernel_rfl) (fun _ _ _ h => h) (Or.inl ⟨by rfl, by intro w hSw; (try dsimp only at hSw); go_simp; try (with_reducible rfl)⟩) (by assumption) ?_
        try simp only [Act.put, List.setIfInBounds_toArray, List.set_cons_zero, List.set_cons_succ]
        refine wpAnyH_take (i := 1) (v := _) rfl (by kernel_rfl) (by kernel_rfl) (by kernel_rfl) (fun _ _ _ h => h) (Or.inl ⟨by rfl, by intro w hSw; (try dsimp only at hSw); go_simp; try (with_reducible rfl)⟩) (by assumption) ?_
        try simp only [Act.put, List.setIfInBounds_toArray, List.set_cons_zero, List.set_cons_succ]
        refine wpAnyH_take (i := 2) (v := _) rfl (by kernel_rfl) (by kernel_rfl) (by kernel_rfl) (fun _ _ _ h => h) (Or.inl ⟨by rfl, by intro w hSw; (try dsimp only at hSw); go_simp; try (with_reducible rfl)⟩) (by assumption) ?_
        try simp only [Act.put, List.setIfInBounds_toArray, List.set_cons_zero, List.set_cons_succ]
        refine wpAnyH_take (i := 3) (v := _) rfl (by kernel_rfl) (by kernel_rfl) (by kernel_rfl) (fun _ _ _ h => h) (Or.inl ⟨by rfl, by intro w hSw; (try dsimp only at hSw); go_simp; try (with_reducible rfl)⟩) (by assumption) ?_
        try simp only [Act.put, List.setIfInBounds_toArray, List.set_cons_zero, List.set_cons_succ]
        refine wpAnyH_take (i := 4) (v := _) rfl (by kernel_rfl) (by kernel_rfl) (by kernel_rfl) (fun _ _ _ h => h) (Or.inl ⟨by rfl, by intro w hSw; (try dsimp only at hSw); go_simp; try (with_reducible rfl)⟩) (by assumption) ?_
        try simp only [Act.put, List.setIfInBounds_toArray, List.set_cons_zero, List.set_cons_succ]
        refine wpAnyH_take (i := 5) (v := _) rfl (by kernel_rfl) (by kernel_rfl) (by kernel_rfl) (fun _ _ _ h => h) (Or.inl ⟨by rfl, by intro w hSw; (try dsimp only at hSw); go_simp; try (with_reducible rfl)⟩) (by assumption) ?_
        try simp only [Act.put, List.setIfInBounds_toArray, List.set_cons_zero, List.set_cons_succ]
        refine wpAnyH_ready (rs := [6]) (by kernel_rfl) (by simp) ?_
        refine AllReadyH.cons rfl (fun K hK => ?_) AllReadyH.nil
        go_simp
        go_at_call 37
        with_reducible refine Calls.mono (M2.out _) ?_
        rintro e w5 ⟨rfl, hb⟩
        have F1 := Lib.hid (TD.out.step hb)
        clear hb
        refine hK.out _ _ (MX.all ⟨F1.out⟩ hg E2.out) (fun hHeld => ?_)
        clear hK K
        try simp only [Act.put, List.setIfInBounds_toArray, List.set_cons_zero, List.set_cons_succ]
        refine wpAnyH_take (i := 7) (v := _) rfl (by kernel_rfl) (by kernel_rfl) (by kernel_rfl) (fun _ _ _ h => h) (Or.inl ⟨by rfl, by intro w hSw; (try dsimp only at hSw); go_simp; try (with_reducible rfl)⟩) (by assumption) ?_
        try simp only [Act.put, List.setIfInBounds_toArray, List.set_cons_zero, List.set_cons_succ]
        refine wpAnyH_done (by kernel_rfl) ?_ _
        clear hHeld TD H
        obtain ⟨_, ⟨u0, u1⟩, u2, u3⟩ := MX.all ⟨F1.out⟩ hg E2.out
        go_wp2
        go_roundw
        case rel => exact Or.inr (Or.inr (Or.inl ⟨(by first | rfl | trivial), F1⟩))
        case measure => simp [intOf]
    · rcases S3.out with ⟨hc, rfl, rfl⟩ | ⟨hc, rfl, rfl⟩
      · skip
        go_upto_region 7 with fail
        have TD := Lib.hid H.out.drew
        refine wp_region_held_drew (S := (fun V => MX w a2 b2 V ∧ (V.cell? ⟨w.heap.size + 1, 0, none⟩ = some (.int .i64 a2) ∧ V.cell? ⟨w.heap.size + 1, 1, none⟩ = some (.int .i64 b2)) ∧ V.cell? ⟨g, 6, none⟩ = some (.int .i64 x3) ∧ V.cell? ⟨g, 7, none⟩ = some (.int .i64 y3))) (by kernel_rfl) (MX.all ⟨TD.out⟩ hg E3.out) (fun hHeld => ?_)
        refine wpAnyH_take (i := 0) (v := _) rfl (by kernel_rfl) (by kernel_rfl) (by kernel_rfl) (fun _ _ _ h => h) (Or.inl ⟨by rfl, by intro w hSw; (try dsimp only at hSw); go_simp; try (with_reducible rfl)⟩) (by assumption) ?_
        try simp only [Act.put, List.setIfInBounds_toArray, List.set_cons_zero, List.set_cons_succ]
        refine wpAnyH_take (i := 1) (v := _) rfl (by kernel_rfl) (by kernel_rfl) (by kernel_rfl) (fun _ _ _ h => h) (Or.inl ⟨by rfl, by intro w hSw; (try dsimp only at hSw); go_simp; try (with_reducible rfl)⟩) (by assumption) ?_
        try simp only [Act.put, List.setIfInBounds_toArray, List.set_cons_zero, List.set_cons_succ]
        refine wpAnyH_take (i := 2) (v := _) rfl (by kernel_rfl) (by kernel_rfl) (by kernel_rfl) (fun _ _ _ h => h) (Or.inl ⟨by rfl, by intro w hSw; (try dsimp only at hSw); go_simp; try (with_reducible rfl)⟩) (by assumption) ?_
        try simp only [Act.put, List.setIfInBounds_toArray, List.set_cons_zero, List.set_cons_succ]
        refine wpAnyH_take (i := 3) (v := _) rfl (by kernel_rfl) (by kernel_rfl) (by kernel_rfl) (fun _ _ _ h => h) (Or.inl ⟨by rfl, by intro w hSw; (try dsimp only at hSw); go_simp; try (with_reducible rfl)⟩) (by assumption) ?_
        try simp only [Act.put, List.setIfInBounds_toArray, List.set_cons_zero, List.set_cons_succ]
        refine wpAnyH_take (i := 4) (v := _) rfl (by kernel_rfl) (by kernel_rfl) (by kernel_rfl) (fun _ _ _ h => h) (Or.inl ⟨by rfl, by intro w hSw; (try dsimp only at hSw); go_simp; try (with_reducible rfl)⟩) (by assumption) ?_
        try simp only [Act.put, List.setIfInBounds_toArray, List.set_cons_zero, List.set_cons_succ]
        refine wpAnyH_take (i := 5) (v := _) rfl (by kernel_rfl) (by kernel_rfl) (by kernel_rfl) (fun _ _ _ h => h) (Or.inl ⟨by rfl, by intro w hSw; (try dsimp only at hSw); go_simp; try (with_reducible rfl)⟩) (by assumption) ?_
        try simp only [Act.put, List.setIfInBounds_toArray, List.set_cons_zero, List.set_cons_succ]
        refine wpAnyH_ready (rs := [6]) (by kernel_rfl) (by simp) ?_
        refine AllReadyH.cons rfl (fun K hK => ?_) AllReadyH.nil
        go_simp
        go_at_call 37
        with_reducible refine Calls.mono (M3.out _) ?_
        rintro e w5 ⟨rfl, hb⟩
        have F1 := Lib.hid (TD.out.step hb)
        clear hb
        refine hK.out _ _ (MX.all ⟨F1.out⟩ hg E3.out) (fun hHeld => ?_)
        clear hK K
        try simp only [Act.put, List.setIfInBounds_toArray, List.set_cons_zero, List.set_cons_succ]
        refine wpAnyH_take (i := 7) (v := _) rfl (by kernel_rfl) (by kernel_rfl) (by kernel_rfl) (fun _ _ _ h => h) (Or.inl ⟨by rfl, by intro w hSw; (try dsimp only at hSw); go_simp; try (with_reducible rfl)⟩) (by assumption) ?_
        try simp only [Act.put, List.setIfInBounds_toArray, List.set_cons_zero, List.set_cons_succ]
        refine wpAnyH_done (by kernel_rfl) ?_ _
        clear hHeld TD H
        obtain ⟨_, ⟨u0, u1⟩, u2, u3⟩ := MX.all ⟨F1.out⟩ hg E3.out
        obtain ⟨k0, k1, k4⟩ := Has.c2 (g := w.heap.size + 1) (x := .int .i64 a2) (y := .int .i64 b2) (t := 23) F1.out (by simp)
        obtain ⟨k5, k6⟩ := frozen2 (F1.out.row (b := w.heap.size + 1) (cs := #[.int .i64 a2, .int .i64 b2]) (t := 23) (by simp))
        have F2 := Lib.hid (Has.put2 (g := w.heap.size + 1) (x := .int .i64 a2) (y := .int .i64 b2) (t := 23) (M := [(w.heap.size, #[.int .i64 0, .int .i64 0], 23)]) F1.out (.int .i64 x3) (.int .i64 y3) (by simp) (by simp <;> omega))
        go_wp2
        go_roundw
        case rel => exact Or.inr (Or.inr (Or.inr (⟨(by first | rfl | trivial), F2⟩)))
        case measure => simp [intOf]
      · skip
        go_upto_region 7 with fail
        have TD := Lib.hid H.out.drew
        refine wp_region_held_drew (S := (fun V => MX w a2 b2 V ∧ (V.cell? ⟨w.heap.size + 1, 0, none⟩ = some (.int .i64 a2) ∧ V.cell? ⟨w.heap.size + 1, 1, none⟩ = some (.int .i64 b2)) ∧ V.cell? ⟨g, 6, none⟩ = some (.int .i64 x3) ∧ V.cell? ⟨g, 7, none⟩ = some (.int .i64 y3))) (by kernel_rfl) (MX.all ⟨TD.out⟩ hg E3.out) (fun hHeld => ?_)
        refine wpAnyH_take (i := 0) (v := _) rfl (by kernel_rfl) (by kernel_rfl) (by kernel_rfl) (fun _ _ _ h => h) (Or.inl ⟨by rfl, by intro w hSw; (try dsimp only at hSw); go_simp; try (with_reducible rfl)⟩) (by assumption) ?_
        try simp only [Act.put, List.setIfInBounds_toArray, List.set_cons_zero, List.set_cons_succ]
        refine wpAnyH_take (i := 1) (v := _) rfl (by kernel_rfl) (by kernel_rfl) (by kernel_rfl) (fun _ _ _ h => h) (Or.inl ⟨by rfl, by intro w hSw; (try dsimp only at hSw); go_simp; try (with_reducible rfl)⟩) (by assumption) ?_
        try simp only [Act.put, List.setIfInBounds_toArray, List.set_cons_zero, List.set_cons_succ]
        refine wpAnyH_take (i := 2) (v := _) rfl (by kernel_rfl) (by kernel_rfl) (by kernel_rfl) (fun _ _ _ h => h) (Or.inl ⟨by rfl, by intro w hSw; (try dsimp only at hSw); go_simp; try (with_reducible rfl)⟩) (by assumption) ?_
        try simp only [Act.put, List.setIfInBounds_toArray, List.set_cons_zero, List.set_cons_succ]
        refine wpAnyH_take (i := 3) (v := _) rfl (by kernel_rfl) (by kernel_rfl) (by kernel_rfl) (fun _ _ _ h => h) (Or.inl ⟨by rfl, by intro w hSw; (try dsimp only at hSw); go_simp; try (with_reducible rfl)⟩) (by assumption) ?_
        try simp only [Act.put, List.setIfInBounds_toArray, List.set_cons_zero, List.set_cons_succ]
        refine wpAnyH_take (i := 4) (v := _) rfl (by kernel_rfl) (by kernel_rfl) (by kernel_rfl) (fun _ _ _ h => h) (Or.inl ⟨by rfl, by intro w hSw; (try dsimp only at hSw); go_simp; try (with_reducible rfl)⟩) (by assumption) ?_
        try simp only [Act.put, List.setIfInBounds_toArray, List.set_cons_zero, List.set_cons_succ]
        refine wpAnyH_take (i := 5) (v := _) rfl (by kernel_rfl) (by kernel_rfl) (by kernel_rfl) (fun _ _ _ h => h) (Or.inl ⟨by rfl, by intro w hSw; (try dsimp only at hSw); go_simp; try (with_reducible rfl)⟩) (by assumption) ?_
        try simp only [Act.put, List.setIfInBounds_toArray, List.set_cons_zero, List.set_cons_succ]
        refine wpAnyH_ready (rs := [6]) (by kernel_rfl) (by simp) ?_
        refine AllReadyH.cons rfl (fun K hK => ?_) AllReadyH.nil
        go_simp
        go_at_call 37
        with_reducible refine Calls.mono (M3.out _) ?_
        rintro e w5 ⟨rfl, hb⟩
        have F1 := Lib.hid (TD.out.step hb)
        clear hb
        refine hK.out _ _ (MX.all ⟨F1.out⟩ hg E3.out) (fun hHeld => ?_)
        clear hK K
        try simp only [Act.put, List.setIfInBounds_toArray, List.set_cons_zero, List.set_cons_succ]
        refine wpAnyH_take (i := 7) (v := _) rfl (by kernel_rfl) (by kernel_rfl) (by kernel_rfl) (fun _ _ _ h => h) (Or.inl ⟨by rfl, by intro w hSw; (try dsimp only at hSw); go_simp; try (with_reducible rfl)⟩) (by assumption) ?_
        try simp only [Act.put, List.setIfInBounds_toArray, List.set_cons_zero, List.set_cons_succ]
        refine wpAnyH_done (by kernel_rfl) ?_ _
        clear hHeld TD H
        obtain ⟨_, ⟨u0, u1⟩, u2, u3⟩ := MX.all ⟨F1.out⟩ hg E3.out
        go_wp2
        go_roundw
        case rel => exact Or.inr (Or.inr (Or.inr (⟨(by first | rfl | trivial), F1⟩)))
        case measure => simp [intOf]
    · obtain ⟨u0, u1, u4⟩ := Has.c2 (g := w.heap.size + 1) (x := .int .i64 a3) (y := .int .i64 b3) (t := 23) H.out (by simp)
      obtain ⟨k0, k1, k4⟩ := Has.c2 (g := w.heap.size) (x := .int .i64 0) (y := .int .i64 0) (t := 23) H.out (by simp)
      obtain ⟨k5, k6⟩ := frozen2 (H.out.row (b := w.heap.size) (cs := #[.int .i64 0, .int .i64 0]) (t := 23) (by simp))
      have F2 := Lib.hid (Has.put2 (g := w.heap.size) (x := .int .i64 0) (y := .int .i64 0) (t := 23) (M := []) H.out (.int .i64 a3) (.int .i64 b3) (by simp) (by simp))
      go_wp2
      refine bodyPost_ret (results_cell_row rfl _ _ w.heap.size 23 #[.int .i64 a3, .int .i64 b3] (0, 0) _ rfl (F2.out.row (by simp)) Try.underlying23 rfl info23) rfl ?_
      exact ⟨rfl, F2.out.1⟩
end Go.Proofs.Ytbiegbnncnjnmaa.Iv
