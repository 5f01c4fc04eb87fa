/- The program's Mul, over its callees. -/
import Derived.Test.YtbhlpcomgfmodaaDoorPN
set_option linter.unusedVariables false
set_option linter.unusedSimpArgs false
namespace Go.Proofs.YtbhlpcomgfmodaaDoor.Pro
open Go.RowKit

set_option maxHeartbeats 2000000 in
set_option maxRecDepth 100000 in
theorem mul_no_raw (n1 d1 n2 d2 : Int) (VA : Hid (∀ w : World, Calls Tryd.prog 43 #[.agg #[.int .i64 n1, .int .i64 d1], .agg #[.int .i64 n2, .int .i64 d2]] w fun e w' => e = .returned (.bool false) ∧ Below w.heap.size w w')) (w : World) :
    Calls Tryd.prog 24 #[.agg #[.int .i64 n1, .int .i64 d1], .agg #[.int .i64 n2, .int .i64 d2]] w fun e w' => e = .returned (.tuple #[.agg #[.int .i64 0, .int .i64 0], .int .i64 1]) ∧ Below w.heap.size w w' := by
  have hmf : ∀ (fn : Fn) (first cap : Array Value) (w : World), (Instr.makeFunc fn first cap).run Tryd.prog w = .ok (.func fn first cap) w := fun _ _ _ _ => rfl
  go_enter_defers Tryd.func24, Tryd.ntmps24
  go_wp2_with fail
  refine (VA.out _).mono ?_
  rintro e w1 ⟨rfl, hb1⟩
  have T1 := Lib.hid (R4.step hb1 (R4.start w n1 d1 n2 d2))
  clear hb1 VA
  obtain ⟨c0, c1⟩ := cells2 T1.out.rowR
  obtain ⟨f0, f1⟩ := frozen2 T1.out.rowR
  have k0 := cells1 T1.out.rowE
  obtain ⟨k1, _⟩ := frozen2 T1.out.rowE
  go_wp2
  refine leaves_cons (f := 50) (args := #[.pointer (some ⟨w.heap.size + 1 + 1 + 1, 0, none⟩)]) (by simp) (by simp [go_sem]) ?_
  refine (mul_idle ⟨w.heap.size + 1 + 1 + 1, 0, none⟩ _).mono ?_
  rintro e u' w'' ⟨rfl, rfl, rfl⟩
  have T9 := (T1.out.setR 0 0).setE 1
  exact ⟨_, res_pair rfl _ _ (w.heap.size + 1 + 1) (w.heap.size + 1 + 1 + 1) 0 0 1 rfl rfl T9.rowR T9.rowE, rfl, T9.has.1⟩
set_option maxHeartbeats 4000000 in
set_option maxRecDepth 100000 in
theorem mul_ok_raw (n1 d1 n2 d2 a1 a2 b1 b2 p q : Int) (VA : Hid (∀ w : World, Calls Tryd.prog 43 #[.agg #[.int .i64 n1, .int .i64 d1], .agg #[.int .i64 n2, .int .i64 d2]] w fun e w' => e = .returned (.bool true) ∧ Below w.heap.size w w'))
    (PA : Hid (∀ w : World, Calls Tryd.prog 44 #[.int .i64 n1, .int .i64 n2] w fun e w' => e = .returned (.agg #[.int .u64 a1, .int .u64 a2]) ∧ Below w.heap.size w w'))
    (PB : Hid (∀ w : World, Calls Tryd.prog 44 #[.int .i64 d1, .int .i64 d2] w fun e w' => e = .returned (.agg #[.int .u64 b1, .int .u64 b2]) ∧ Below w.heap.size w w'))
    (RE : Hid (∀ w : World, Calls Tryd.prog 35 #[.agg #[.int .u64 a1, .int .u64 a2], .agg #[.int .u64 b1, .int .u64 b2]] w fun e w' => e = .returned (.agg #[.int .i64 p, .int .i64 q]) ∧ Below w.heap.size w w')) (w : World) :
    Calls Tryd.prog 24 #[.agg #[.int .i64 n1, .int .i64 d1], .agg #[.int .i64 n2, .int .i64 d2]] w fun e w' => e = .returned (.tuple #[.agg #[.int .i64 p, .int .i64 q], .int .i64 0]) ∧ Below w.heap.size w w' := by
  have hmf : ∀ (fn : Fn) (first cap : Array Value) (w : World), (Instr.makeFunc fn first cap).run Tryd.prog w = .ok (.func fn first cap) w := fun _ _ _ _ => rfl
  go_enter_defers Tryd.func24, Tryd.ntmps24
  go_wp2_with fail
  refine (VA.out _).mono ?_
  rintro e w1 ⟨rfl, hb1⟩
  have T1 := Lib.hid (R4.step hb1 (R4.start w n1 d1 n2 d2))
  clear hb1 VA
  have hk0 := Q4k.mk T1.out.q
  have h0 := hk0.out.all
  go_upto_region 4 with fail
  go_region_held3 (fun V => Q4 w n1 d1 n2 d2 V ∧ V.cell? ⟨w.heap.size, 0, none⟩ = some (.int .i64 n1) ∧ V.cell? ⟨w.heap.size, 1, none⟩ = some (.int .i64 d1) ∧ V.cell? ⟨w.heap.size + 1, 0, none⟩ = some (.int .i64 n2) ∧ V.cell? ⟨w.heap.size + 1, 1, none⟩ = some (.int .i64 d2) ∧ V.cell? ⟨w.heap.size + 1 + 1, 0, none⟩ = some (held V (w.heap.size + 1 + 1) 0) ∧ V.cell? ⟨w.heap.size + 1 + 1, 1, none⟩ = some (held V (w.heap.size + 1 + 1) 1) ∧ V.cell? ⟨w.heap.size + 1 + 1 + 1, 0, none⟩ = some (held V (w.heap.size + 1 + 1 + 1) 0) ∧ V.frozen? ⟨w.heap.size + 1 + 1, 0, none⟩ = false ∧ V.frozen? ⟨w.heap.size + 1 + 1, 1, none⟩ = false ∧ V.frozen? ⟨w.heap.size + 1 + 1 + 1, 0, none⟩ = false)
    (((refine Q4.all ?_; (with_reducible repeat (first | exact Q4k.out (by assumption) | apply Q4.drew | apply Q4.setR | apply Q4.setE)))))
    (first | (go_at_call 44; (with_reducible first | (refine (PA.out _).mono ?_) | (refine (PB.out _).mono ?_)); rintro e w' ⟨rfl, hb⟩; (have hk := Q4k.mk (Q4.step hb (by (with_reducible repeat (first | exact Q4k.out (by assumption) | apply Q4.drew | apply Q4.setR | apply Q4.setE)))))) | (go_at_call 35; (with_reducible first | (refine (RE.out _).mono ?_)); rintro e w' ⟨rfl, hb⟩; (have hk := Q4k.mk (Q4.step hb (by (with_reducible repeat (first | exact Q4k.out (by assumption) | apply Q4.drew | apply Q4.setR | apply Q4.setE))))); (have HZ := Lib.hid (Q4k.out hk))))
  go_wp2
  obtain ⟨r1, r2, e1, hz⟩ := HZ.out
  have T9 := (hz.setR4 (.int .i64 p) (.int .i64 q)).setE4 (.int .i64 0)
  refine leaves_cons (f := 50) (args := #[.pointer (some ⟨w.heap.size + 1 + 1 + 1, 0, none⟩)]) (by simp) (by simp [go_sem]) ?_
  refine (mul_idle ⟨w.heap.size + 1 + 1 + 1, 0, none⟩ _).mono ?_
  rintro e u' w'' ⟨rfl, rfl, rfl⟩
  exact ⟨_, res_pair rfl _ _ (w.heap.size + 1 + 1) (w.heap.size + 1 + 1 + 1) p q 0 rfl rfl (T9.row (by simp)) (T9.row (by simp)), rfl, T9.1⟩
set_option maxHeartbeats 8000000 in
set_option maxRecDepth 100000 in
theorem mul_over_raw (n1 d1 n2 d2 a1 a2 b1 b2 : Int) (VA : Hid (∀ w : World, Calls Tryd.prog 43 #[.agg #[.int .i64 n1, .int .i64 d1], .agg #[.int .i64 n2, .int .i64 d2]] w fun e w' => e = .returned (.bool true) ∧ Below w.heap.size w w'))
    (PA : Hid (∀ w : World, Calls Tryd.prog 44 #[.int .i64 n1, .int .i64 n2] w fun e w' => e = .returned (.agg #[.int .u64 a1, .int .u64 a2]) ∧ Below w.heap.size w w'))
    (PB : Hid (∀ w : World, Calls Tryd.prog 44 #[.int .i64 d1, .int .i64 d2] w fun e w' => e = .returned (.agg #[.int .u64 b1, .int .u64 b2]) ∧ Below w.heap.size w w'))
    (RE : Hid (∀ w : World, Calls Tryd.prog 35 #[.agg #[.int .u64 a1, .int .u64 a2], .agg #[.int .u64 b1, .int .u64 b2]] w fun e w' => e = over ∧ Below w.heap.size w w')) (w : World) :
    Calls Tryd.prog 24 #[.agg #[.int .i64 n1, .int .i64 d1], .agg #[.int .i64 n2, .int .i64 d2]] w fun e w' => e = .returned (.tuple #[.agg #[.int .i64 0, .int .i64 0], .int .i64 14]) ∧ Below w.heap.size w w' := by
  unfold over at RE
  have hmf : ∀ (fn : Fn) (first cap : Array Value) (w : World), (Instr.makeFunc fn first cap).run Tryd.prog w = .ok (.func fn first cap) w := fun _ _ _ _ => rfl
  go_enter_defers Tryd.func24, Tryd.ntmps24
  go_wp2_with fail
  refine (VA.out _).mono ?_
  rintro e w1 ⟨rfl, hb1⟩
  have T1 := Lib.hid (R4.step hb1 (R4.start w n1 d1 n2 d2))
  clear hb1 VA
  have ht := T1.out
  have h0 := T1.out.q.all
  obtain ⟨_, u1, u2, u3, u4, _⟩ := h0
  go_upto_region 4 with fail
  refine wp_region_held_drew (S := (fun V => R4 w n1 d1 n2 d2 0 0 0 V ∧ V.cell? ⟨w.heap.size, 0, none⟩ = some (.int .i64 n1) ∧ V.cell? ⟨w.heap.size, 1, none⟩ = some (.int .i64 d1) ∧ V.cell? ⟨w.heap.size + 1, 0, none⟩ = some (.int .i64 n2) ∧ V.cell? ⟨w.heap.size + 1, 1, none⟩ = some (.int .i64 d2))) (by kernel_rfl) ⟨ht.drew, u1, u2, u3, u4⟩ (fun hHeld => ?_)
  refine wpAnyH_take (i := 0) (v := _) rfl (by kernel_rfl) (by kernel_rfl) (by kernel_rfl) (fun _ _ _ h => panic_put (p := 4) (q := 5) rfl 12 (by decide) (by decide) h) (Or.inl ⟨by rfl, by intro w hSw; (try dsimp only at hSw); go_simp; try (with_reducible rfl)⟩) (by assumption) ?_
  try simp only [Act.put, List.setIfInBounds_toArray, List.set_cons_zero, List.set_cons_succ]
  refine wpAnyH_take (i := 1) (v := _) rfl (by kernel_rfl) (by kernel_rfl) (by kernel_rfl) (fun _ _ _ h => panic_put (p := 4) (q := 5) rfl 13 (by decide) (by decide) h) (Or.inl ⟨by rfl, by intro w hSw; (try dsimp only at hSw); go_simp; try (with_reducible rfl)⟩) (by assumption) ?_
  try simp only [Act.put, List.setIfInBounds_toArray, List.set_cons_zero, List.set_cons_succ]
  refine wpAnyH_take (i := 2) (v := _) rfl (by kernel_rfl) (by kernel_rfl) (by kernel_rfl) (fun _ _ _ h => panic_put (p := 4) (q := 5) rfl 14 (by decide) (by decide) h) (Or.inl ⟨by rfl, by intro w hSw; (try dsimp only at hSw); go_simp; try (with_reducible rfl)⟩) (by assumption) ?_
  try simp only [Act.put, List.setIfInBounds_toArray, List.set_cons_zero, List.set_cons_succ]
  refine wpAnyH_take (i := 3) (v := _) rfl (by kernel_rfl) (by kernel_rfl) (by kernel_rfl) (fun _ _ _ h => panic_put (p := 4) (q := 5) rfl 15 (by decide) (by decide) h) (Or.inl ⟨by rfl, by intro w hSw; (try dsimp only at hSw); go_simp; try (with_reducible rfl)⟩) (by assumption) ?_
  try simp only [Act.put, List.setIfInBounds_toArray, List.set_cons_zero, List.set_cons_succ]
  refine wpAnyH_take (i := 5) (v := _) rfl (by kernel_rfl) (by kernel_rfl) (by kernel_rfl) (fun _ _ _ h => panic_put (p := 4) (q := 5) rfl 17 (by decide) (by decide) h) (Or.inl ⟨by rfl, by intro w hSw; (try dsimp only at hSw); go_simp; try (with_reducible rfl)⟩) (by assumption) ?_
  try simp only [Act.put, List.setIfInBounds_toArray, List.set_cons_zero, List.set_cons_succ]
  refine wpAnyH_take (i := 6) (v := _) rfl (by kernel_rfl) (by kernel_rfl) (by kernel_rfl) (fun _ _ _ h => panic_put (p := 4) (q := 5) rfl 18 (by decide) (by decide) h) (Or.inl ⟨by rfl, by intro w hSw; (try dsimp only at hSw); go_simp; try (with_reducible rfl)⟩) (by assumption) ?_
  try simp only [Act.put, List.setIfInBounds_toArray, List.set_cons_zero, List.set_cons_succ]
  refine wpAnyH_take (i := 7) (v := _) rfl (by kernel_rfl) (by kernel_rfl) (by kernel_rfl) (fun _ _ _ h => panic_put (p := 4) (q := 5) rfl 19 (by decide) (by decide) h) (Or.inl ⟨by rfl, by intro w hSw; (try dsimp only at hSw); go_simp; try (with_reducible rfl)⟩) (by assumption) ?_
  try simp only [Act.put, List.setIfInBounds_toArray, List.set_cons_zero, List.set_cons_succ]
  refine wpAnyH_take (i := 8) (v := _) rfl (by kernel_rfl) (by kernel_rfl) (by kernel_rfl) (fun _ _ _ h => panic_put (p := 4) (q := 5) rfl 20 (by decide) (by decide) h) (Or.inl ⟨by rfl, by intro w hSw; (try dsimp only at hSw); go_simp; try (with_reducible rfl)⟩) (by assumption) ?_
  try simp only [Act.put, List.setIfInBounds_toArray, List.set_cons_zero, List.set_cons_succ]
  refine wpAnyH_ready (rs := [4]) (by kernel_rfl) (by simp) ?_
  refine AllReadyH.cons rfl (fun K hK => ?_) AllReadyH.nil
  go_simp
  go_wp2_with (go_at_call 44; (with_reducible first | (refine (PA.out _).mono ?_)); rintro e w14 ⟨rfl, hb⟩; (have hk := R4.step hb (by (with_reducible repeat (first | exact hHeld.1 | apply R4.drew)))))
  refine hK.out _ _ ⟨hk, hk.q.all.2.1, hk.q.all.2.2.1, hk.q.all.2.2.2.1, hk.q.all.2.2.2.2.1⟩ (fun hHeld => ?_)
  clear hK K
  try simp only [Act.put, List.setIfInBounds_toArray, List.set_cons_zero, List.set_cons_succ]
  refine wpAnyH_ready (rs := [9]) (by kernel_rfl) (by simp) ?_
  refine AllReadyH.cons rfl (fun K hK => ?_) AllReadyH.nil
  go_simp
  go_wp2_with (go_at_call 44; (with_reducible first | (refine (PB.out _).mono ?_)); rintro e w19 ⟨rfl, hb⟩; (have hk := R4.step hb (by (with_reducible repeat (first | exact hHeld.1 | apply R4.drew)))))
  refine hK.out _ _ ⟨hk, hk.q.all.2.1, hk.q.all.2.2.1, hk.q.all.2.2.2.1, hk.q.all.2.2.2.2.1⟩ (fun hHeld => ?_)
  clear hK K
  try simp only [Act.put, List.setIfInBounds_toArray, List.set_cons_zero, List.set_cons_succ]
  refine wpAnyH_ready (rs := [10]) (by kernel_rfl) (by simp) ?_
  refine AllReadyH.cons rfl (fun K hK => ?_) AllReadyH.nil
  go_simp
  go_wp2_with (go_at_call 35; (with_reducible first | (refine (RE.out _).mono ?_)); rintro e w' ⟨rfl, hb⟩; (have hk := R4.step hb (by (with_reducible repeat (first | exact hHeld.1 | apply R4.drew)))))
  have k0 := cells1 hk.rowE
  obtain ⟨k1, _⟩ := frozen2 hk.rowE
  refine leaves_cons (f := 50) (args := #[.pointer (some ⟨w.heap.size + 1 + 1 + 1, 0, none⟩)]) (by simp) (by simp [go_sem]) ?_
  refine (mul_catch ⟨w.heap.size + 1 + 1 + 1, 0, none⟩ 0 _ k0 k1).mono ?_
  rintro e u' w'' ⟨rfl, rfl, rfl⟩
  have T9 := hk.setE 14
  exact ⟨_, res_pair rfl _ _ (w.heap.size + 1 + 1) (w.heap.size + 1 + 1 + 1) 0 0 14 rfl rfl T9.rowR T9.rowE, rfl, T9.has.1⟩
end Go.Proofs.YtbhlpcomgfmodaaDoor.Pro
