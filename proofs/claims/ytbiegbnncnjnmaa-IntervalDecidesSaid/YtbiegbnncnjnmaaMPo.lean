/- The program's Mul, over its callees. The program's Add, over its callees. The program's valid, Add, Mul, Sub. The program's Sub, Div, Compare, Floor. The program's Div, Floor. -/
import Derived.Test.YtbiegbnncnjnmaaMPj
import Derived.Test.YtbiegbnncnjnmaaRatS
set_option linter.unusedVariables false
set_option linter.unusedSimpArgs false
namespace Go.Proofs.Ytbiegbnncnjnmaa.Pro
open Go.RowKit

set_option maxHeartbeats 2000000 in
set_option maxRecDepth 100000 in
theorem mul_no_raw (n1 d1 n2 d2 : Int) (VA : Hid (∀ w : World, Calls Try.prog 62 #[.agg #[.int .i64 n1, .int .i64 d1], .agg #[.int .i64 n2, .int .i64 d2]] w fun e w' => e = .returned (.bool false) ∧ Below w.heap.size w w')) (w : World) :
    Calls Try.prog 70 #[.agg #[.int .i64 n1, .int .i64 d1], .agg #[.int .i64 n2, .int .i64 d2]] w fun e w' => e = .returned (.tuple #[.agg #[.int .i64 0, .int .i64 0], .int .i64 1]) ∧ Below w.heap.size w w' := by
  have hmf : ∀ (fn : Fn) (first cap : Array Value) (w : World), (Instr.makeFunc fn first cap).run Try.prog w = .ok (.func fn first cap) w := fun _ _ _ _ => rfl
  go_enter_defers Try.func70, Try.ntmps70
  go_wp2_with fail
  refine (VA.out _).mono ?_
  rintro e w1 ⟨rfl, hb1⟩
  have T1 := Lib.hid (R4.step hb1 (R4.start w n1 d1 n2 d2))
  clear hb1 VA
  obtain ⟨c0, c1⟩ := cells2 T1.out.rowR
  obtain ⟨f0, f1⟩ := frozen2 T1.out.rowR
  have k0 := cells1 T1.out.rowE
  obtain ⟨k1, _⟩ := frozen2 T1.out.rowE
  go_wp2
  refine leaves_cons (f := 92) (args := #[.pointer (some ⟨w.heap.size + 1 + 1 + 1, 0, none⟩)]) (by simp) (by simp [go_sem]) ?_
  refine (mul_idle ⟨w.heap.size + 1 + 1 + 1, 0, none⟩ _).mono ?_
  rintro e u' w'' ⟨rfl, rfl, rfl⟩
  have T9 := (T1.out.setR 0 0).setE 1
  exact ⟨_, res_pair rfl _ _ (w.heap.size + 1 + 1) (w.heap.size + 1 + 1 + 1) 0 0 1 rfl rfl T9.rowR T9.rowE, rfl, T9.has.1⟩
set_option maxHeartbeats 4000000 in
set_option maxRecDepth 100000 in
theorem mul_ok_raw (n1 d1 n2 d2 a1 a2 b1 b2 p q : Int) (VA : Hid (∀ w : World, Calls Try.prog 62 #[.agg #[.int .i64 n1, .int .i64 d1], .agg #[.int .i64 n2, .int .i64 d2]] w fun e w' => e = .returned (.bool true) ∧ Below w.heap.size w w'))
    (PA : Hid (∀ w : World, Calls Try.prog 63 #[.int .i64 n1, .int .i64 n2] w fun e w' => e = .returned (.agg #[.int .u64 a1, .int .u64 a2]) ∧ Below w.heap.size w w'))
    (PB : Hid (∀ w : World, Calls Try.prog 63 #[.int .i64 d1, .int .i64 d2] w fun e w' => e = .returned (.agg #[.int .u64 b1, .int .u64 b2]) ∧ Below w.heap.size w w'))
    (RE : Hid (∀ w : World, Calls Try.prog 81 #[.agg #[.int .u64 a1, .int .u64 a2], .agg #[.int .u64 b1, .int .u64 b2]] w fun e w' => e = .returned (.agg #[.int .i64 p, .int .i64 q]) ∧ Below w.heap.size w w')) (w : World) :
    Calls Try.prog 70 #[.agg #[.int .i64 n1, .int .i64 d1], .agg #[.int .i64 n2, .int .i64 d2]] w fun e w' => e = .returned (.tuple #[.agg #[.int .i64 p, .int .i64 q], .int .i64 0]) ∧ Below w.heap.size w w' := by
  have hmf : ∀ (fn : Fn) (first cap : Array Value) (w : World), (Instr.makeFunc fn first cap).run Try.prog w = .ok (.func fn first cap) w := fun _ _ _ _ => rfl
  go_enter_defers Try.func70, Try.ntmps70
  go_wp2_with fail
  refine (VA.out _).mono ?_
  rintro e w1 ⟨rfl, hb1⟩
  have T1 := Lib.hid (R4.step hb1 (R4.start w n1 d1 n2 d2))
  clear hb1 VA
  have hk0 := Q4k.mk T1.out.q
  have h0 := hk0.out.all
  go_upto_region 4 with fail
  go_region_held3 (fun V => Q4 w n1 d1 n2 d2 V ∧ V.cell? ⟨w.heap.size, 0, none⟩ = some (.int .i64 n1) ∧ V.cell? ⟨w.heap.size, 1, none⟩ = some (.int .i64 d1) ∧ V.cell? ⟨w.heap.size + 1, 0, none⟩ = some (.int .i64 n2) ∧ V.cell? ⟨w.heap.size + 1, 1, none⟩ = some (.int .i64 d2) ∧ V.cell? ⟨w.heap.size + 1 + 1, 0, none⟩ = some (held V (w.heap.size + 1 + 1) 0) ∧ V.cell? ⟨w.heap.size + 1 + 1, 1, none⟩ = some (held V (w.heap.size + 1 + 1) 1) ∧ V.cell? ⟨w.heap.size + 1 + 1 + 1, 0, none⟩ = some (held V (w.heap.size + 1 + 1 + 1) 0) ∧ V.frozen? ⟨w.heap.size + 1 + 1, 0, none⟩ = false ∧ V.frozen? ⟨w.heap.size + 1 + 1, 1, none⟩ = false ∧ V.frozen? ⟨w.heap.size + 1 + 1 + 1, 0, none⟩ = false)
    (((refine Q4.all ?_; (with_reducible repeat (first | exact Q4k.out (by assumption) | apply Q4.drew | apply Q4.setR | apply Q4.setE)))))
    (first | (go_at_call 63; (with_reducible first | (refine (PA.out _).mono ?_) | (refine (PB.out _).mono ?_)); rintro e w' ⟨rfl, hb⟩; (have hk := Q4k.mk (Q4.step hb (by (with_reducible repeat (first | exact Q4k.out (by assumption) | apply Q4.drew | apply Q4.setR | apply Q4.setE)))))) | (go_at_call 81; (with_reducible first | (refine (RE.out _).mono ?_)); rintro e w' ⟨rfl, hb⟩; (have hk := Q4k.mk (Q4.step hb (by (with_reducible repeat (first | exact Q4k.out (by assumption) | apply Q4.drew | apply Q4.setR | apply Q4.setE))))); (have HZ := Lib.hid (Q4k.out hk))))
  go_wp2
  obtain ⟨r1, r2, e1, hz⟩ := HZ.out
  have T9 := (hz.setR4 (.int .i64 p) (.int .i64 q)).setE4 (.int .i64 0)
  refine leaves_cons (f := 92) (args := #[.pointer (some ⟨w.heap.size + 1 + 1 + 1, 0, none⟩)]) (by simp) (by simp [go_sem]) ?_
  refine (mul_idle ⟨w.heap.size + 1 + 1 + 1, 0, none⟩ _).mono ?_
  rintro e u' w'' ⟨rfl, rfl, rfl⟩
  exact ⟨_, res_pair rfl _ _ (w.heap.size + 1 + 1) (w.heap.size + 1 + 1 + 1) p q 0 rfl rfl (T9.row (by simp)) (T9.row (by simp)), rfl, T9.1⟩
set_option maxHeartbeats 8000000 in
set_option maxRecDepth 100000 in
theorem mul_over_raw (n1 d1 n2 d2 a1 a2 b1 b2 : Int) (VA : Hid (∀ w : World, Calls Try.prog 62 #[.agg #[.int .i64 n1, .int .i64 d1], .agg #[.int .i64 n2, .int .i64 d2]] w fun e w' => e = .returned (.bool true) ∧ Below w.heap.size w w'))
    (PA : Hid (∀ w : World, Calls Try.prog 63 #[.int .i64 n1, .int .i64 n2] w fun e w' => e = .returned (.agg #[.int .u64 a1, .int .u64 a2]) ∧ Below w.heap.size w w'))
    (PB : Hid (∀ w : World, Calls Try.prog 63 #[.int .i64 d1, .int .i64 d2] w fun e w' => e = .returned (.agg #[.int .u64 b1, .int .u64 b2]) ∧ Below w.heap.size w w'))
    (RE : Hid (∀ w : World, Calls Try.prog 81 #[.agg #[.int .u64 a1, .int .u64 a2], .agg #[.int .u64 b1, .int .u64 b2]] w fun e w' => e = over ∧ Below w.heap.size w w')) (w : World) :
    Calls Try.prog 70 #[.agg #[.int .i64 n1, .int .i64 d1], .agg #[.int .i64 n2, .int .i64 d2]] w fun e w' => e = .returned (.tuple #[.agg #[.int .i64 0, .int .i64 0], .int .i64 14]) ∧ Below w.heap.size w w' := by
  unfold over at RE
  have hmf : ∀ (fn : Fn) (first cap : Array Value) (w : World), (Instr.makeFunc fn first cap).run Try.prog w = .ok (.func fn first cap) w := fun _ _ _ _ => rfl
  go_enter_defers Try.func70, Try.ntmps70
  go_wp2_with fail
  refine (VA.out _).mono ?_
  rintro e w1 ⟨rfl, hb1⟩
  have T1 := Lib.hid (R4.step hb1 (R4.start w n1 d1 n2 d2))
  clear hb1 VA
  have ht := T1.out
  have h0 := T1.out.q.all
  obtain ⟨_, u1, u2, u3, u4, _⟩ := h0
  go_upto_region 4 with fail
  refine wp_region_held_drew (S := (fun V => R4 w n1 d1 n2 d2 0 0 0 V ∧ V.cell? ⟨w.heap.size, 0, none⟩ = some (.int .i64 n1) ∧ V.cell? ⟨w.heap.size, 1, none⟩ = some (.int .i64 d1) ∧ V.cell? ⟨w.heap.size + 1, 0, none⟩ = some (.int .i64 n2) ∧ V.cell? ⟨w.heap.size + 1, 1, none⟩ = some (.int .i64 d2))) (by kernel_rfl) ⟨ht.drew, u1, u2, u3, u4⟩ (fun hHeld => ?_)
  refine wpAnyH_take (i := 0) (v := _) rfl (by kernel_rfl) (by kernel_rfl) (by kernel_rfl) (fun _ _ _ h => panic_put (p := 4) (q := 5) rfl 12 (by decide) (by decide) h) (Or.inl ⟨by rfl, by intro w hSw; (try dsimp only at hSw); go_simp; try (with_reducible rfl)⟩) (by assumption) ?_
  try simp only [Act.put, List.setIfInBounds_toArray, List.set_cons_zero, List.set_cons_succ]
  refine wpAnyH_take (i := 1) (v := _) rfl (by kernel_rfl) (by kernel_rfl) (by kernel_rfl) (fun _ _ _ h => panic_put (p := 4) (q := 5) rfl 13 (by decide) (by decide) h) (Or.inl ⟨by rfl, by intro w hSw; (try dsimp only at hSw); go_simp; try (with_reducible rfl)⟩) (by assumption) ?_
  try simp only [Act.put, List.setIfInBounds_toArray, List.set_cons_zero, List.set_cons_succ]
  refine wpAnyH_take (i := 2) (v := _) rfl (by kernel_rfl) (by kernel_rfl) (by kernel_rfl) (fun _ _ _ h => panic_put (p := 4) (q := 5) rfl 14 (by decide) (by decide) h) (Or.inl ⟨by rfl, by intro w hSw; (try dsimp only at hSw); go_simp; try (with_reducible rfl)⟩) (by assumption) ?_
  try simp only [Act.put, List.setIfInBounds_toArray, List.set_cons_zero, List.set_cons_succ]
  refine wpAnyH_take (i := 3) (v := _) rfl (by kernel_rfl) (by kernel_rfl) (by kernel_rfl) (fun _ _ _ h => panic_put (p := 4) (q := 5) rfl 15 (by decide) (by decide) h) (Or.inl ⟨by rfl, by intro w hSw; (try dsimp only at hSw); go_simp; try (with_reducible rfl)⟩) (by assumption) ?_
  try simp only [Act.put, List.setIfInBounds_toArray, List.set_cons_zero, List.set_cons_succ]
  refine wpAnyH_take (i := 5) (v := _) rfl (by kernel_rfl) (by kernel_rfl) (by kernel_rfl) (fun _ _ _ h => panic_put (p := 4) (q := 5) rfl 17 (by decide) (by decide) h) (Or.inl ⟨by rfl, by intro w hSw; (try dsimp only at hSw); go_simp; try (with_reducible rfl)⟩) (by assumption) ?_
  try simp only [Act.put, List.setIfInBounds_toArray, List.set_cons_zero, List.set_cons_succ]
  refine wpAnyH_take (i := 6) (v := _) rfl (by kernel_rfl) (by kernel_rfl) (by kernel_rfl) (fun _ _ _ h => panic_put (p := 4) (q := 5) rfl 18 (by decide) (by decide) h) (Or.inl ⟨by rfl, by intro w hSw; (try dsimp only at hSw); go_simp; try (with_reducible rfl)⟩) (by assumption) ?_
  try simp only [Act.put, List.setIfInBounds_toArray, List.set_cons_zero, List.set_cons_succ]
  refine wpAnyH_take (i := 7) (v := _) rfl (by kernel_rfl) (by kernel_rfl) (by kernel_rfl) (fun _ _ _ h => panic_put (p := 4) (q := 5) rfl 19 (by decide) (by decide) h) (Or.inl ⟨by rfl, by intro w hSw; (try dsimp only at hSw); go_simp; try (with_reducible rfl)⟩) (by assumption) ?_
  try simp only [Act.put, List.setIfInBounds_toArray, List.set_cons_zero, List.set_cons_succ]
  refine wpAnyH_take (i := 8) (v := _) rfl (by kernel_rfl) (by kernel_rfl) (by kernel_rfl) (fun _ _ _ h => panic_put (p := 4) (q := 5) rfl 20 (by decide) (by decide) h) (Or.inl ⟨by rfl, by intro w hSw; (try dsimp only at hSw); go_simp; try (with_reducible rfl)⟩) (by assumption) ?_
  try simp only [Act.put, List.setIfInBounds_toArray, List.set_cons_zero, List.set_cons_succ]
  refine wpAnyH_ready (rs := [4]) (by kernel_rfl) (by simp) ?_
  refine AllReadyH.cons rfl (fun K hK => ?_) AllReadyH.nil
  go_simp
  go_wp2_with (go_at_call 63; (with_reducible first | (refine (PA.out _).mono ?_)); rintro e w14 ⟨rfl, hb⟩; (have hk := R4.step hb (by (with_reducible repeat (first | exact hHeld.1 | apply R4.drew)))))
  refine hK.out _ _ ⟨hk, hk.q.all.2.1, hk.q.all.2.2.1, hk.q.all.2.2.2.1, hk.q.all.2.2.2.2.1⟩ (fun hHeld => ?_)
  clear hK K
  try simp only [Act.put, List.setIfInBounds_toArray, List.set_cons_zero, List.set_cons_succ]
  refine wpAnyH_ready (rs := [9]) (by kernel_rfl) (by simp) ?_
  refine AllReadyH.cons rfl (fun K hK => ?_) AllReadyH.nil
  go_simp
  go_wp2_with (go_at_call 63; (with_reducible first | (refine (PB.out _).mono ?_)); rintro e w19 ⟨rfl, hb⟩; (have hk := R4.step hb (by (with_reducible repeat (first | exact hHeld.1 | apply R4.drew)))))
  refine hK.out _ _ ⟨hk, hk.q.all.2.1, hk.q.all.2.2.1, hk.q.all.2.2.2.1, hk.q.all.2.2.2.2.1⟩ (fun hHeld => ?_)
  clear hK K
  try simp only [Act.put, List.setIfInBounds_toArray, List.set_cons_zero, List.set_cons_succ]
  refine wpAnyH_ready (rs := [10]) (by kernel_rfl) (by simp) ?_
  refine AllReadyH.cons rfl (fun K hK => ?_) AllReadyH.nil
  go_simp
  go_wp2_with (go_at_call 81; (with_reducible first | (refine (RE.out _).mono ?_)); rintro e w' ⟨rfl, hb⟩; (have hk := R4.step hb (by (with_reducible repeat (first | exact hHeld.1 | apply R4.drew)))))
  have k0 := cells1 hk.rowE
  obtain ⟨k1, _⟩ := frozen2 hk.rowE
  refine leaves_cons (f := 92) (args := #[.pointer (some ⟨w.heap.size + 1 + 1 + 1, 0, none⟩)]) (by simp) (by simp [go_sem]) ?_
  refine (mul_catch ⟨w.heap.size + 1 + 1 + 1, 0, none⟩ 0 _ k0 k1).mono ?_
  rintro e u' w'' ⟨rfl, rfl, rfl⟩
  have T9 := hk.setE 14
  exact ⟨_, res_pair rfl _ _ (w.heap.size + 1 + 1) (w.heap.size + 1 + 1 + 1) 0 0 14 rfl rfl T9.rowR T9.rowE, rfl, T9.has.1⟩
end Go.Proofs.Ytbiegbnncnjnmaa.Pro
namespace Go.Proofs.Ytbiegbnncnjnmaa.Pro
open Go.RowKit

set_option maxHeartbeats 2000000 in
set_option maxRecDepth 100000 in
theorem add_no_raw (n1 d1 n2 d2 : Int) (VA : Hid (∀ w : World, Calls Try.prog 62 #[.agg #[.int .i64 n1, .int .i64 d1], .agg #[.int .i64 n2, .int .i64 d2]] w fun e w' => e = .returned (.bool false) ∧ Below w.heap.size w w')) (w : World) :
    Calls Try.prog 60 #[.agg #[.int .i64 n1, .int .i64 d1], .agg #[.int .i64 n2, .int .i64 d2]] w fun e w' => e = .returned (.tuple #[.agg #[.int .i64 0, .int .i64 0], .int .i64 1]) ∧ Below w.heap.size w w' := by
  have hmf : ∀ (fn : Fn) (first cap : Array Value) (w : World), (Instr.makeFunc fn first cap).run Try.prog w = .ok (.func fn first cap) w := fun _ _ _ _ => rfl
  go_enter_defers Try.func60, Try.ntmps60
  go_wp2_with fail
  refine (VA.out _).mono ?_
  rintro e w1 ⟨rfl, hb1⟩
  have T1 := Lib.hid (R4.step hb1 (R4.start w n1 d1 n2 d2))
  clear hb1 VA
  obtain ⟨c0, c1⟩ := cells2 T1.out.rowR
  obtain ⟨f0, f1⟩ := frozen2 T1.out.rowR
  have k0 := cells1 T1.out.rowE
  obtain ⟨k1, _⟩ := frozen2 T1.out.rowE
  go_wp2
  refine leaves_cons (f := 80) (args := #[.pointer (some ⟨w.heap.size + 1 + 1 + 1, 0, none⟩)]) (by simp) (by simp [go_sem]) ?_
  refine (add_idle ⟨w.heap.size + 1 + 1 + 1, 0, none⟩ _).mono ?_
  rintro e u' w'' ⟨rfl, rfl, rfl⟩
  have T9 := (T1.out.setR 0 0).setE 1
  exact ⟨_, res_pair rfl _ _ (w.heap.size + 1 + 1) (w.heap.size + 1 + 1 + 1) 0 0 1 rfl rfl T9.rowR T9.rowE, rfl, T9.has.1⟩
set_option maxHeartbeats 4000000 in
set_option maxRecDepth 100000 in
theorem add_ok_raw (n1 d1 n2 d2 a1 a2 b1 b2 c1 c2 g1 g2 p q : Int) (VA : Hid (∀ w : World, Calls Try.prog 62 #[.agg #[.int .i64 n1, .int .i64 d1], .agg #[.int .i64 n2, .int .i64 d2]] w fun e w' => e = .returned (.bool true) ∧ Below w.heap.size w w'))
    (PA : Hid (∀ w : World, Calls Try.prog 63 #[.int .i64 n1, .int .i64 d2] w fun e w' => e = .returned (.agg #[.int .u64 a1, .int .u64 a2]) ∧ Below w.heap.size w w'))
    (PB : Hid (∀ w : World, Calls Try.prog 63 #[.int .i64 n2, .int .i64 d1] w fun e w' => e = .returned (.agg #[.int .u64 b1, .int .u64 b2]) ∧ Below w.heap.size w w'))
    (PC : Hid (∀ w : World, Calls Try.prog 82 #[.agg #[.int .u64 a1, .int .u64 a2], .agg #[.int .u64 b1, .int .u64 b2]] w fun e w' => e = .returned (.agg #[.int .u64 c1, .int .u64 c2]) ∧ Below w.heap.size w w'))
    (PD : Hid (∀ w : World, Calls Try.prog 63 #[.int .i64 d1, .int .i64 d2] w fun e w' => e = .returned (.agg #[.int .u64 g1, .int .u64 g2]) ∧ Below w.heap.size w w'))
    (RE : Hid (∀ w : World, Calls Try.prog 81 #[.agg #[.int .u64 c1, .int .u64 c2], .agg #[.int .u64 g1, .int .u64 g2]] w fun e w' => e = .returned (.agg #[.int .i64 p, .int .i64 q]) ∧ Below w.heap.size w w')) (w : World) :
    Calls Try.prog 60 #[.agg #[.int .i64 n1, .int .i64 d1], .agg #[.int .i64 n2, .int .i64 d2]] w fun e w' => e = .returned (.tuple #[.agg #[.int .i64 p, .int .i64 q], .int .i64 0]) ∧ Below w.heap.size w w' := by
  have hmf : ∀ (fn : Fn) (first cap : Array Value) (w : World), (Instr.makeFunc fn first cap).run Try.prog w = .ok (.func fn first cap) w := fun _ _ _ _ => rfl
  go_enter_defers Try.func60, Try.ntmps60
  go_wp2_with fail
  refine (VA.out _).mono ?_
  rintro e w1 ⟨rfl, hb1⟩
  have T1 := Lib.hid (R4.step hb1 (R4.start w n1 d1 n2 d2))
  clear hb1 VA
  have hk0 := Q4k.mk T1.out.q
  have h0 := hk0.out.all
  go_upto_region 4 with fail
  go_region_held3 (fun V => Q4 w n1 d1 n2 d2 V ∧ V.cell? ⟨w.heap.size, 0, none⟩ = some (.int .i64 n1) ∧ V.cell? ⟨w.heap.size, 1, none⟩ = some (.int .i64 d1) ∧ V.cell? ⟨w.heap.size + 1, 0, none⟩ = some (.int .i64 n2) ∧ V.cell? ⟨w.heap.size + 1, 1, none⟩ = some (.int .i64 d2) ∧ V.cell? ⟨w.heap.size + 1 + 1, 0, none⟩ = some (held V (w.heap.size + 1 + 1) 0) ∧ V.cell? ⟨w.heap.size + 1 + 1, 1, none⟩ = some (held V (w.heap.size + 1 + 1) 1) ∧ V.cell? ⟨w.heap.size + 1 + 1 + 1, 0, none⟩ = some (held V (w.heap.size + 1 + 1 + 1) 0) ∧ V.frozen? ⟨w.heap.size + 1 + 1, 0, none⟩ = false ∧ V.frozen? ⟨w.heap.size + 1 + 1, 1, none⟩ = false ∧ V.frozen? ⟨w.heap.size + 1 + 1 + 1, 0, none⟩ = false)
    (((refine Q4.all ?_; (with_reducible repeat (first | exact Q4k.out (by assumption) | apply Q4.drew | apply Q4.setR | apply Q4.setE)))))
    (first | (go_at_call 63; (with_reducible first | (refine (PA.out _).mono ?_) | (refine (PB.out _).mono ?_) | (refine (PD.out _).mono ?_)); rintro e w' ⟨rfl, hb⟩; (have hk := Q4k.mk (Q4.step hb (by (with_reducible repeat (first | exact Q4k.out (by assumption) | apply Q4.drew | apply Q4.setR | apply Q4.setE)))))) | (go_at_call 82; (with_reducible first | (refine (PC.out _).mono ?_)); rintro e w' ⟨rfl, hb⟩; (have hk := Q4k.mk (Q4.step hb (by (with_reducible repeat (first | exact Q4k.out (by assumption) | apply Q4.drew | apply Q4.setR | apply Q4.setE)))))) | (go_at_call 81; (with_reducible first | (refine (RE.out _).mono ?_)); rintro e w' ⟨rfl, hb⟩; (have hk := Q4k.mk (Q4.step hb (by (with_reducible repeat (first | exact Q4k.out (by assumption) | apply Q4.drew | apply Q4.setR | apply Q4.setE))))); (have HZ := Lib.hid (Q4k.out hk))))
  go_wp2
  obtain ⟨r1, r2, e1, hz⟩ := HZ.out
  have T9 := (hz.setR4 (.int .i64 p) (.int .i64 q)).setE4 (.int .i64 0)
  refine leaves_cons (f := 80) (args := #[.pointer (some ⟨w.heap.size + 1 + 1 + 1, 0, none⟩)]) (by simp) (by simp [go_sem]) ?_
  refine (add_idle ⟨w.heap.size + 1 + 1 + 1, 0, none⟩ _).mono ?_
  rintro e u' w'' ⟨rfl, rfl, rfl⟩
  exact ⟨_, res_pair rfl _ _ (w.heap.size + 1 + 1) (w.heap.size + 1 + 1 + 1) p q 0 rfl rfl (T9.row (by simp)) (T9.row (by simp)), rfl, T9.1⟩
set_option maxHeartbeats 8000000 in
set_option maxRecDepth 100000 in
theorem add_over_raw (n1 d1 n2 d2 a1 a2 b1 b2 c1 c2 g1 g2 : Int) (VA : Hid (∀ w : World, Calls Try.prog 62 #[.agg #[.int .i64 n1, .int .i64 d1], .agg #[.int .i64 n2, .int .i64 d2]] w fun e w' => e = .returned (.bool true) ∧ Below w.heap.size w w'))
    (PA : Hid (∀ w : World, Calls Try.prog 63 #[.int .i64 n1, .int .i64 d2] w fun e w' => e = .returned (.agg #[.int .u64 a1, .int .u64 a2]) ∧ Below w.heap.size w w'))
    (PB : Hid (∀ w : World, Calls Try.prog 63 #[.int .i64 n2, .int .i64 d1] w fun e w' => e = .returned (.agg #[.int .u64 b1, .int .u64 b2]) ∧ Below w.heap.size w w'))
    (PC : Hid (∀ w : World, Calls Try.prog 82 #[.agg #[.int .u64 a1, .int .u64 a2], .agg #[.int .u64 b1, .int .u64 b2]] w fun e w' => e = .returned (.agg #[.int .u64 c1, .int .u64 c2]) ∧ Below w.heap.size w w'))
    (PD : Hid (∀ w : World, Calls Try.prog 63 #[.int .i64 d1, .int .i64 d2] w fun e w' => e = .returned (.agg #[.int .u64 g1, .int .u64 g2]) ∧ Below w.heap.size w w'))
    (RE : Hid (∀ w : World, Calls Try.prog 81 #[.agg #[.int .u64 c1, .int .u64 c2], .agg #[.int .u64 g1, .int .u64 g2]] w fun e w' => e = over ∧ Below w.heap.size w w')) (w : World) :
    Calls Try.prog 60 #[.agg #[.int .i64 n1, .int .i64 d1], .agg #[.int .i64 n2, .int .i64 d2]] w fun e w' => e = .returned (.tuple #[.agg #[.int .i64 0, .int .i64 0], .int .i64 14]) ∧ Below w.heap.size w w' := by
  unfold over at RE
  have hmf : ∀ (fn : Fn) (first cap : Array Value) (w : World), (Instr.makeFunc fn first cap).run Try.prog w = .ok (.func fn first cap) w := fun _ _ _ _ => rfl
  go_enter_defers Try.func60, Try.ntmps60
  go_wp2_with fail
  refine (VA.out _).mono ?_
  rintro e w1 ⟨rfl, hb1⟩
  have T1 := Lib.hid (R4.step hb1 (R4.start w n1 d1 n2 d2))
  clear hb1 VA
  have ht := T1.out
  have h0 := T1.out.q.all
  obtain ⟨_, u1, u2, u3, u4, _⟩ := h0
  go_upto_region 4 with fail
  refine wp_region_held_drew (S := (fun V => R4 w n1 d1 n2 d2 0 0 0 V ∧ V.cell? ⟨w.heap.size, 0, none⟩ = some (.int .i64 n1) ∧ V.cell? ⟨w.heap.size, 1, none⟩ = some (.int .i64 d1) ∧ V.cell? ⟨w.heap.size + 1, 0, none⟩ = some (.int .i64 n2) ∧ V.cell? ⟨w.heap.size + 1, 1, none⟩ = some (.int .i64 d2))) (by kernel_rfl) ⟨ht.drew, u1, u2, u3, u4⟩ (fun hHeld => ?_)
  refine wpAnyH_take (i := 0) (v := _) rfl (by kernel_rfl) (by kernel_rfl) (by kernel_rfl) (fun _ _ _ h => panic_put (p := 4) (q := 5) rfl 12 (by decide) (by decide) h) (Or.inl ⟨by rfl, by intro w hSw; (try dsimp only at hSw); go_simp; try (with_reducible rfl)⟩) (by assumption) ?_
  try simp only [Act.put, List.setIfInBounds_toArray, List.set_cons_zero, List.set_cons_succ]
  refine wpAnyH_take (i := 1) (v := _) rfl (by kernel_rfl) (by kernel_rfl) (by kernel_rfl) (fun _ _ _ h => panic_put (p := 4) (q := 5) rfl 13 (by decide) (by decide) h) (Or.inl ⟨by rfl, by intro w hSw; (try dsimp only at hSw); go_simp; try (with_reducible rfl)⟩) (by assumption) ?_
  try simp only [Act.put, List.setIfInBounds_toArray, List.set_cons_zero, List.set_cons_succ]
  refine wpAnyH_take (i := 2) (v := _) rfl (by kernel_rfl) (by kernel_rfl) (by kernel_rfl) (fun _ _ _ h => panic_put (p := 4) (q := 5) rfl 14 (by decide) (by decide) h) (Or.inl ⟨by rfl, by intro w hSw; (try dsimp only at hSw); go_simp; try (with_reducible rfl)⟩) (by assumption) ?_
  try simp only [Act.put, List.setIfInBounds_toArray, List.set_cons_zero, List.set_cons_succ]
  refine wpAnyH_take (i := 3) (v := _) rfl (by kernel_rfl) (by kernel_rfl) (by kernel_rfl) (fun _ _ _ h => panic_put (p := 4) (q := 5) rfl 15 (by decide) (by decide) h) (Or.inl ⟨by rfl, by intro w hSw; (try dsimp only at hSw); go_simp; try (with_reducible rfl)⟩) (by assumption) ?_
  try simp only [Act.put, List.setIfInBounds_toArray, List.set_cons_zero, List.set_cons_succ]
  refine wpAnyH_take (i := 5) (v := _) rfl (by kernel_rfl) (by kernel_rfl) (by kernel_rfl) (fun _ _ _ h => panic_put (p := 4) (q := 5) rfl 17 (by decide) (by decide) h) (Or.inl ⟨by rfl, by intro w hSw; (try dsimp only at hSw); go_simp; try (with_reducible rfl)⟩) (by assumption) ?_
  try simp only [Act.put, List.setIfInBounds_toArray, List.set_cons_zero, List.set_cons_succ]
  refine wpAnyH_take (i := 6) (v := _) rfl (by kernel_rfl) (by kernel_rfl) (by kernel_rfl) (fun _ _ _ h => panic_put (p := 4) (q := 5) rfl 18 (by decide) (by decide) h) (Or.inl ⟨by rfl, by intro w hSw; (try dsimp only at hSw); go_simp; try (with_reducible rfl)⟩) (by assumption) ?_
  try simp only [Act.put, List.setIfInBounds_toArray, List.set_cons_zero, List.set_cons_succ]
  refine wpAnyH_take (i := 7) (v := _) rfl (by kernel_rfl) (by kernel_rfl) (by kernel_rfl) (fun _ _ _ h => panic_put (p := 4) (q := 5) rfl 19 (by decide) (by decide) h) (Or.inl ⟨by rfl, by intro w hSw; (try dsimp only at hSw); go_simp; try (with_reducible rfl)⟩) (by assumption) ?_
  try simp only [Act.put, List.setIfInBounds_toArray, List.set_cons_zero, List.set_cons_succ]
  refine wpAnyH_take (i := 8) (v := _) rfl (by kernel_rfl) (by kernel_rfl) (by kernel_rfl) (fun _ _ _ h => panic_put (p := 4) (q := 5) rfl 20 (by decide) (by decide) h) (Or.inl ⟨by rfl, by intro w hSw; (try dsimp only at hSw); go_simp; try (with_reducible rfl)⟩) (by assumption) ?_
  try simp only [Act.put, List.setIfInBounds_toArray, List.set_cons_zero, List.set_cons_succ]
  refine wpAnyH_take (i := 11) (v := _) rfl (by kernel_rfl) (by kernel_rfl) (by kernel_rfl) (fun _ _ _ h => panic_put (p := 4) (q := 5) rfl 23 (by decide) (by decide) h) (Or.inl ⟨by rfl, by intro w hSw; (try dsimp only at hSw); go_simp; try (with_reducible rfl)⟩) (by assumption) ?_
  try simp only [Act.put, List.setIfInBounds_toArray, List.set_cons_zero, List.set_cons_succ]
  refine wpAnyH_take (i := 12) (v := _) rfl (by kernel_rfl) (by kernel_rfl) (by kernel_rfl) (fun _ _ _ h => panic_put (p := 4) (q := 5) rfl 24 (by decide) (by decide) h) (Or.inl ⟨by rfl, by intro w hSw; (try dsimp only at hSw); go_simp; try (with_reducible rfl)⟩) (by assumption) ?_
  try simp only [Act.put, List.setIfInBounds_toArray, List.set_cons_zero, List.set_cons_succ]
  refine wpAnyH_take (i := 13) (v := _) rfl (by kernel_rfl) (by kernel_rfl) (by kernel_rfl) (fun _ _ _ h => panic_put (p := 4) (q := 5) rfl 25 (by decide) (by decide) h) (Or.inl ⟨by rfl, by intro w hSw; (try dsimp only at hSw); go_simp; try (with_reducible rfl)⟩) (by assumption) ?_
  try simp only [Act.put, List.setIfInBounds_toArray, List.set_cons_zero, List.set_cons_succ]
  refine wpAnyH_take (i := 14) (v := _) rfl (by kernel_rfl) (by kernel_rfl) (by kernel_rfl) (fun _ _ _ h => panic_put (p := 4) (q := 5) rfl 26 (by decide) (by decide) h) (Or.inl ⟨by rfl, by intro w hSw; (try dsimp only at hSw); go_simp; try (with_reducible rfl)⟩) (by assumption) ?_
  try simp only [Act.put, List.setIfInBounds_toArray, List.set_cons_zero, List.set_cons_succ]
  refine wpAnyH_ready (rs := [4]) (by kernel_rfl) (by simp) ?_
  refine AllReadyH.cons rfl (fun K hK => ?_) AllReadyH.nil
  go_simp
  go_wp2_with (go_at_call 63; (with_reducible first | (refine (PA.out _).mono ?_)); rintro e w14 ⟨rfl, hb⟩; (have hk := R4.step hb (by (with_reducible repeat (first | exact hHeld.1 | apply R4.drew)))))
  refine hK.out _ _ ⟨hk, hk.q.all.2.1, hk.q.all.2.2.1, hk.q.all.2.2.2.1, hk.q.all.2.2.2.2.1⟩ (fun hHeld => ?_)
  clear hK K
  try simp only [Act.put, List.setIfInBounds_toArray, List.set_cons_zero, List.set_cons_succ]
  refine wpAnyH_ready (rs := [9]) (by kernel_rfl) (by simp) ?_
  refine AllReadyH.cons rfl (fun K hK => ?_) AllReadyH.nil
  go_simp
  go_wp2_with (go_at_call 63; (with_reducible first | (refine (PB.out _).mono ?_)); rintro e w19 ⟨rfl, hb⟩; (have hk := R4.step hb (by (with_reducible repeat (first | exact hHeld.1 | apply R4.drew)))))
  refine hK.out _ _ ⟨hk, hk.q.all.2.1, hk.q.all.2.2.1, hk.q.all.2.2.2.1, hk.q.all.2.2.2.2.1⟩ (fun hHeld => ?_)
  clear hK K
  try simp only [Act.put, List.setIfInBounds_toArray, List.set_cons_zero, List.set_cons_succ]
  refine wpAnyH_ready (rs := [10]) (by kernel_rfl) (by simp) ?_
  refine AllReadyH.cons rfl (fun K hK => ?_) AllReadyH.nil
  go_simp
  go_wp2_with (go_at_call 82; (with_reducible first | (refine (PC.out _).mono ?_)); rintro e w20 ⟨rfl, hb⟩; (have hk := R4.step hb (by (with_reducible repeat (first | exact hHeld.1 | apply R4.drew)))))
  refine hK.out _ _ ⟨hk, hk.q.all.2.1, hk.q.all.2.2.1, hk.q.all.2.2.2.1, hk.q.all.2.2.2.2.1⟩ (fun hHeld => ?_)
  clear hK K
  try simp only [Act.put, List.setIfInBounds_toArray, List.set_cons_zero, List.set_cons_succ]
  refine wpAnyH_ready (rs := [15]) (by kernel_rfl) (by simp) ?_
  refine AllReadyH.cons rfl (fun K hK => ?_) AllReadyH.nil
  go_simp
  go_wp2_with (go_at_call 63; (with_reducible first | (refine (PD.out _).mono ?_)); rintro e w25 ⟨rfl, hb⟩; (have hk := R4.step hb (by (with_reducible repeat (first | exact hHeld.1 | apply R4.drew)))))
  refine hK.out _ _ ⟨hk, hk.q.all.2.1, hk.q.all.2.2.1, hk.q.all.2.2.2.1, hk.q.all.2.2.2.2.1⟩ (fun hHeld => ?_)
  clear hK K
  try simp only [Act.put, List.setIfInBounds_toArray, List.set_cons_zero, List.set_cons_succ]
  refine wpAnyH_ready (rs := [16]) (by kernel_rfl) (by simp) ?_
  refine AllReadyH.cons rfl (fun K hK => ?_) AllReadyH.nil
  go_simp
  go_wp2_with (go_at_call 81; (with_reducible first | (refine (RE.out _).mono ?_)); rintro e w' ⟨rfl, hb⟩; (have hk := R4.step hb (by (with_reducible repeat (first | exact hHeld.1 | apply R4.drew)))))
  have k0 := cells1 hk.rowE
  obtain ⟨k1, _⟩ := frozen2 hk.rowE
  refine leaves_cons (f := 80) (args := #[.pointer (some ⟨w.heap.size + 1 + 1 + 1, 0, none⟩)]) (by simp) (by simp [go_sem]) ?_
  refine (add_catch ⟨w.heap.size + 1 + 1 + 1, 0, none⟩ 0 _ k0 k1).mono ?_
  rintro e u' w'' ⟨rfl, rfl, rfl⟩
  have T9 := hk.setE 14
  exact ⟨_, res_pair rfl _ _ (w.heap.size + 1 + 1) (w.heap.size + 1 + 1 + 1) 0 0 14 rfl rfl T9.rowR T9.rowE, rfl, T9.has.1⟩
end Go.Proofs.Ytbiegbnncnjnmaa.Pro
namespace Go.Proofs.Ytbiegbnncnjnmaa.Pro
open Go.RowKit

/-- Two fractions in their blocks. -/
structure P2 (w : World) (n1 d1 n2 d2 : Int) (V : World) : Prop where
  has : Has w [(w.heap.size, #[.int .i64 n1, .int .i64 d1], 23), (w.heap.size + 1, #[.int .i64 n2, .int .i64 d2], 23)] V
theorem P2.start (w : World) (n1 d1 n2 d2 : Int) : P2 w n1 d1 n2 d2 ((w.alloc (.cells #[.int .i64 n1, .int .i64 d1] 23)).alloc (.cells #[.int .i64 n2, .int .i64 d2] 23)) := by
  have h := ((Has.start w).alloc #[.int .i64 n1, .int .i64 d1] 23).alloc #[.int .i64 n2, .int .i64 d2] 23
  simp only [World.size_alloc] at h
  exact ⟨h.sub (by simp)⟩
theorem P2.step {w V V2 : World} {n1 d1 n2 d2 : Int} (hb : Below V.heap.size V V2) (h : P2 w n1 d1 n2 d2 V) : P2 w n1 d1 n2 d2 V2 := ⟨h.has.step hb⟩
theorem P2.drew {w V : World} {n1 d1 n2 d2 : Int} (h : P2 w n1 d1 n2 d2 V) : P2 w n1 d1 n2 d2 V.drew := ⟨h.has.drew⟩
theorem P2.all {w V : World} {n1 d1 n2 d2 : Int} (h : P2 w n1 d1 n2 d2 V) : P2 w n1 d1 n2 d2 V ∧ V.cell? ⟨w.heap.size, 0, none⟩ = some (.int .i64 n1) ∧ V.cell? ⟨w.heap.size, 1, none⟩ = some (.int .i64 d1) ∧ V.cell? ⟨w.heap.size + 1, 0, none⟩ = some (.int .i64 n2) ∧ V.cell? ⟨w.heap.size + 1, 1, none⟩ = some (.int .i64 d2) :=
  have ha := cells2 (h.has.row (b := w.heap.size) (cs := #[.int .i64 n1, .int .i64 d1]) (t := 23) (by simp))
  have hb := cells2 (h.has.row (b := w.heap.size + 1) (cs := #[.int .i64 n2, .int .i64 d2]) (t := 23) (by simp))
  ⟨h, ha.1, ha.2, hb.1, hb.2⟩
structure P2k (w : World) (n1 d1 n2 d2 : Int) (V : World) : Prop where
  out : P2 w n1 d1 n2 d2 V
set_option maxHeartbeats 1000000 in
set_option maxRecDepth 100000 in
theorem valid_yes (n1 d1 n2 d2 : Int) (hx : Rat.chk n1 d1) (hy : Rat.chk n2 d2) (w : World) :
    Calls Try.prog 62 #[.agg #[.int .i64 n1, .int .i64 d1], .agg #[.int .i64 n2, .int .i64 d2]] w fun e w' => e = .returned (.bool true) ∧ Below w.heap.size w w' := by
  have A := Lib.hid fun w => check_yes n1 d1 hx w
  have B := Lib.hid fun w => check_yes n2 d2 hy w
  clear hx hy
  go_enter Try.func62, Try.ntmps62
  go_wp2_with fail
  with_reducible refine (A.out _).mono ?_
  rintro e w1 ⟨rfl, hb1⟩
  have T1 := Lib.hid (P2.step hb1 (P2.start w n1 d1 n2 d2))
  clear hb1 A
  obtain ⟨_, u1, u2, u3, u4⟩ := T1.out.all
  go_wp2_with fail
  with_reducible refine (B.out _).mono ?_
  rintro e w2 ⟨rfl, hb2⟩
  have T2 := Lib.hid (P2.step hb2 T1.out)
  clear hb2 B T1 u1 u2 u3 u4
  go_wp2
  go_ret
  exact ⟨rfl, T2.out.has.1⟩
set_option maxHeartbeats 1000000 in
set_option maxRecDepth 100000 in
theorem valid_no (n1 d1 n2 d2 : Int) (i1 : inI n1) (i2 : inI d1) (i3 : inI n2) (i4 : inI d2) (h : ¬ (Rat.chk n1 d1 ∧ Rat.chk n2 d2)) (w : World) :
    Calls Try.prog 62 #[.agg #[.int .i64 n1, .int .i64 d1], .agg #[.int .i64 n2, .int .i64 d2]] w fun e w' => e = .returned (.bool false) ∧ Below w.heap.size w w' := by
  by_cases hx : Rat.chk n1 d1
  · have A := Lib.hid fun w => check_yes n1 d1 hx w
    have B := Lib.hid fun w => check_no n2 d2 i3 i4 (fun hy => h ⟨hx, hy⟩) w
    clear hx h
    go_enter Try.func62, Try.ntmps62
    go_wp2_with fail
    with_reducible refine (A.out _).mono ?_
    rintro e w1 ⟨rfl, hb1⟩
    have T1 := Lib.hid (P2.step hb1 (P2.start w n1 d1 n2 d2))
    clear hb1 A
    obtain ⟨_, u1, u2, u3, u4⟩ := T1.out.all
    go_wp2_with fail
    with_reducible refine (B.out _).mono ?_
    rintro e w2 ⟨rfl, hb2⟩
    have T2 := Lib.hid (P2.step hb2 T1.out)
    clear hb2 B T1 u1 u2 u3 u4
    go_wp2
    go_ret
    exact ⟨rfl, T2.out.has.1⟩
  · have A := Lib.hid fun w => check_no n1 d1 i1 i2 hx w
    clear hx h
    go_enter Try.func62, Try.ntmps62
    go_wp2_with fail
    with_reducible refine (A.out _).mono ?_
    rintro e w1 ⟨rfl, hb1⟩
    have T1 := Lib.hid (P2.step hb1 (P2.start w n1 d1 n2 d2))
    clear hb1 A
    obtain ⟨_, u1, u2, u3, u4⟩ := T1.out.all
    go_wp2
    go_ret
    exact ⟨rfl, T1.out.has.1⟩
/-- A quotient, as it is reduced. -/
theorem make_Q (num : Int) (den : Nat) (h : den ≠ 0) : Rat.makeOut num den = Rat.outQ (mkRat num den) := by
  unfold Rat.makeOut Rat.outQ
  rw [mkRat, dif_neg h, Rat.norm_num', Rat.norm_den']
  have hg : 0 < Nat.gcd num.natAbs den := Nat.gcd_pos_of_pos_right _ (by omega)
  have e1 : (den : Int).sign = 1 := Rat.sign_pos' (by omega)
  have e2 : num.sign * (den : Int).sign * ((num.natAbs / Nat.gcd num.natAbs (den : Int).natAbs : Nat) : Int) = num / ((Nat.gcd num.natAbs den : Nat) : Int) := by
    rw [e1, Int.mul_one, Int.natAbs_natCast]
    obtain ⟨k, hk⟩ := Nat.gcd_dvd_left num.natAbs den
    generalize Nat.gcd num.natAbs den = g at *
    rw [hk, Nat.mul_div_cancel_left _ hg]
    have e3 : num = (g : Int) * (num.sign * k) := by
      conv => lhs; rw [← Int.sign_mul_natAbs num, hk]
      push_cast
      ac_rfl
    conv => rhs; rw [e3]
    rw [Int.mul_ediv_cancel_left _ (by omega)]
  rw [e2, Int.natAbs_natCast]
theorem make_add {n1 n2 : Int} {D1 D2 : Nat} (h1 : D1 ≠ 0) (h2 : D2 ≠ 0) : Rat.makeOut (n1 * D2 + n2 * D1) ((D1 : Int) * D2) = Rat.outQ (Rat.toQ n1 D1 + Rat.toQ n2 D2) := by
  have h := make_Q (n1 * D2 + n2 * D1) (D1 * D2) (Nat.mul_ne_zero h1 h2)
  unfold Rat.toQ
  rw [Rat.mkRat_add_mkRat _ _ h1 h2, ← h]
  push_cast
  rfl
theorem make_mul {n1 n2 : Int} {D1 D2 : Nat} (h1 : D1 ≠ 0) (h2 : D2 ≠ 0) : Rat.makeOut (n1 * n2) ((D1 : Int) * D2) = Rat.outQ (Rat.toQ n1 D1 * Rat.toQ n2 D2) := by
  have h := make_Q (n1 * n2) (D1 * D2) (Nat.mul_ne_zero h1 h2)
  unfold Rat.toQ
  rw [Rat.mkRat_mul_mkRat, ← h]
  push_cast
  rfl
theorem far_two {a b : Int} (ha : a.natAbs ≤ 1152921504606846976) (hb : b.natAbs ≤ 1152921504606846976) : (a * b).natAbs ≤ 1329227995784915872903807060280344576 := by
  rw [Int.natAbs_mul]
  exact Nat.mul_le_mul ha hb
theorem chk_bounds {n d : Int} (h : Rat.chk n d) : n.natAbs ≤ 1152921504606846976 ∧ d.natAbs ≤ 1152921504606846976 ∧ 1 ≤ d ∧ inI n ∧ inI d := by
  obtain ⟨h1, h2, h3⟩ := h
  unfold inI
  omega
theorem add_any (n1 d1 n2 d2 : Int) (i1 : inI n1) (i2 : inI d1) (i3 : inI n2) (i4 : inI d2) (w : World) :
    Calls Try.prog 60 #[.agg #[.int .i64 n1, .int .i64 d1], .agg #[.int .i64 n2, .int .i64 d2]] w fun e w' => e = .returned (Rat.opOut (· + ·) n1 d1 n2 d2) ∧ Below w.heap.size w w' := by
  by_cases h : Rat.chk n1 d1 ∧ Rat.chk n2 d2
  · rw [Rat.opOut_yes h]
    have VA := Lib.hid fun w => valid_yes n1 d1 n2 d2 h.1 h.2 w
    obtain ⟨D1, rfl, hx⟩ := Rat.chk_nat h.1
    obtain ⟨D2, rfl, hy⟩ := Rat.chk_nat h.2
    clear h
    obtain ⟨b1, b2, b3, _, _⟩ := chk_bounds hx
    obtain ⟨b4, b5, b6, _, _⟩ := chk_bounds hy
    have hm := make_add (n1 := n1) (n2 := n2) (D1 := D1) (D2 := D2) (by omega) (by omega)
    rw [Int.toNat_natCast, Int.toNat_natCast, ← hm]
    have f1 := far_two b1 b5
    have f2 := far_two b4 b2
    have f3 := far_two b2 b5
    have hd0 : ((D1 : Int) * D2) ≠ 0 := Int.mul_ne_zero (by omega) (by omega)
    have RE := Lib.hid fun w => reduced_any (n1 * D2 + n2 * D1) ((D1 : Int) * D2) (by unfold far; omega) (by unfold far; omega) hd0 w
    have PA := Lib.hid fun w => product_any n1 D2 i1 i4 w
    have PB := Lib.hid fun w => product_any n2 D1 i3 i2 w
    have PC := Lib.hid fun w => plus_any (n1 * D2) (n2 * D1) w
    have PD := Lib.hid fun w => product_any D1 D2 i2 i4 w
    rcases redV_pair (n1 * D2 + n2 * D1) ((D1 : Int) * D2) hd0 with ⟨a, b, h1, h2⟩ | ⟨h1, h2⟩
    · rw [h1] at RE
      rw [h2]
      exact add_ok_raw n1 D1 n2 D2 _ _ _ _ _ _ _ _ a b VA PA PB PC PD RE w
    · rw [h1] at RE
      rw [h2]
      exact add_over_raw n1 D1 n2 D2 _ _ _ _ _ _ _ _ VA PA PB PC PD RE w
  · rw [Rat.opOut_no h]
    exact add_no_raw n1 d1 n2 d2 (Lib.hid fun w => valid_no n1 d1 n2 d2 i1 i2 i3 i4 h w) w
theorem mul_any (n1 d1 n2 d2 : Int) (i1 : inI n1) (i2 : inI d1) (i3 : inI n2) (i4 : inI d2) (w : World) :
    Calls Try.prog 70 #[.agg #[.int .i64 n1, .int .i64 d1], .agg #[.int .i64 n2, .int .i64 d2]] w fun e w' => e = .returned (Rat.opOut (· * ·) n1 d1 n2 d2) ∧ Below w.heap.size w w' := by
  by_cases h : Rat.chk n1 d1 ∧ Rat.chk n2 d2
  · rw [Rat.opOut_yes h]
    have VA := Lib.hid fun w => valid_yes n1 d1 n2 d2 h.1 h.2 w
    obtain ⟨D1, rfl, hx⟩ := Rat.chk_nat h.1
    obtain ⟨D2, rfl, hy⟩ := Rat.chk_nat h.2
    clear h
    obtain ⟨b1, b2, b3, _, _⟩ := chk_bounds hx
    obtain ⟨b4, b5, b6, _, _⟩ := chk_bounds hy
    have hm := make_mul (n1 := n1) (n2 := n2) (D1 := D1) (D2 := D2) (by omega) (by omega)
    rw [Int.toNat_natCast, Int.toNat_natCast, ← hm]
    have f1 := far_two b1 b4
    have f3 := far_two b2 b5
    have hd0 : ((D1 : Int) * D2) ≠ 0 := Int.mul_ne_zero (by omega) (by omega)
    have RE := Lib.hid fun w => reduced_any (n1 * n2) ((D1 : Int) * D2) (by unfold far; omega) (by unfold far; omega) hd0 w
    have PA := Lib.hid fun w => product_any n1 n2 i1 i3 w
    have PB := Lib.hid fun w => product_any D1 D2 i2 i4 w
    rcases redV_pair (n1 * n2) ((D1 : Int) * D2) hd0 with ⟨a, b, h1, h2⟩ | ⟨h1, h2⟩
    · rw [h1] at RE
      rw [h2]
      exact mul_ok_raw n1 D1 n2 D2 _ _ _ _ a b VA PA PB RE w
    · rw [h1] at RE
      rw [h2]
      exact mul_over_raw n1 D1 n2 D2 _ _ _ _ VA PA PB RE w
  · rw [Rat.opOut_no h]
    exact mul_no_raw n1 d1 n2 d2 (Lib.hid fun w => valid_no n1 d1 n2 d2 i1 i2 i3 i4 h w) w
end Go.Proofs.Ytbiegbnncnjnmaa.Pro
namespace Go.Proofs.Ytbiegbnncnjnmaa.Pro
open Go.RowKit

theorem opOut_form (q : _root_.Rat → _root_.Rat → _root_.Rat) (n1 d1 n2 d2 : Int) : ∃ a b x : Int, Rat.opOut q n1 d1 n2 d2 = .tuple #[.agg #[.int .i64 a, .int .i64 b], .int .i64 x] := by
  unfold Rat.opOut
  split
  · exact Rat.pairOut_form _ _
  · exact ⟨0, 0, 1, rfl⟩
set_option maxHeartbeats 1000000 in
set_option maxRecDepth 100000 in
theorem sub_raw (n1 d1 n2 d2 m a b x : Int) (hm : IntKind.i64.wrap (-n2) = m) (AD : Hid (∀ w : World, Calls Try.prog 60 #[.agg #[.int .i64 n1, .int .i64 d1], .agg #[.int .i64 m, .int .i64 d2]] w fun e w' => e = .returned (.tuple #[.agg #[.int .i64 a, .int .i64 b], .int .i64 x]) ∧ Below w.heap.size w w')) (w : World) :
    Calls Try.prog 34 #[.agg #[.int .i64 n1, .int .i64 d1], .agg #[.int .i64 n2, .int .i64 d2]] w fun e w' => e = .returned (.tuple #[.agg #[.int .i64 a, .int .i64 b], .int .i64 x]) ∧ Below w.heap.size w w' := by
  go_enter Try.func34, Try.ntmps34
  go_wp2_with fail
  with_reducible refine (AD.out _).mono ?_
  rintro e w1 ⟨rfl, hb1⟩
  have T1 := Lib.hid (((((Has.start w).alloc #[.int .i64 n1, .int .i64 d1] 23).alloc #[.int .i64 n2, .int .i64 d2] 23).alloc #[.int .i64 0, .int .i64 0] 23).step hb1)
  simp only [World.size_alloc] at T1
  clear hb1 AD hm
  have hr := T1.out.row (b := w.heap.size + 1 + 1) (cs := #[.int .i64 0, .int .i64 0]) (t := 23) (by simp)
  obtain ⟨c0, c1⟩ := cells2 hr
  obtain ⟨f0, f1⟩ := frozen2 hr
  go_wp2
  have hC := heap_setCell_same _ _ 1 _ _ (.int .i64 b) (heap_setCell_same _ _ 0 _ _ (.int .i64 a) hr)
  refine bodyPost_ret (res_cell_tmp rfl _ _ (w.heap.size + 1 + 1) 23 _ (0, 0) _ rfl hC Try.underlying23 rfl info23) rfl ?_
  exact ⟨rfl, (T1.out.1.setCell (by simp; omega) _).setCell (by simp; omega) _⟩
theorem sub_add (n1 d1 n2 d2 : Int) (i3 : inI n2) : Rat.opOut (· - ·) n1 d1 n2 d2 = Rat.opOut (· + ·) n1 d1 (IntKind.i64.wrap (-n2)) d2 := by
  unfold inI at i3
  by_cases hmin : n2 = -9223372036854775808
  · have e : IntKind.i64.wrap (-n2) = n2 := by subst hmin; decide
    rw [e]
    have hn : ¬ (Rat.chk n1 d1 ∧ Rat.chk n2 d2) := fun h => by have := h.2.2.1; omega
    rw [Rat.opOut_no hn, Rat.opOut_no hn]
  · have e : IntKind.i64.wrap (-n2) = -n2 := IntWalk.i64_in _ (by omega)
    rw [e]
    by_cases h : Rat.chk n1 d1 ∧ Rat.chk n2 d2
    · obtain ⟨D2, rfl, hy⟩ := Rat.chk_nat h.2
      rw [Rat.opOut_yes h, Rat.opOut_yes ⟨h.1, Rat.chk_neg hy⟩, Rat.toQ_neg, _root_.Rat.sub_eq_add_neg]
    · have h' : ¬ (Rat.chk n1 d1 ∧ Rat.chk (-n2) d2) := fun hh => h ⟨hh.1, by
        obtain ⟨D2, rfl, hy⟩ := Rat.chk_nat hh.2
        have := Rat.chk_neg hy
        rwa [Int.neg_neg] at this⟩
      rw [Rat.opOut_no h, Rat.opOut_no h']
theorem wrap_inI (z : Int) : inI (IntKind.i64.wrap z) := by
  rw [IntKind.wrap_i64]; unfold inI; omega
theorem sub_any (n1 d1 n2 d2 : Int) (i1 : inI n1) (i2 : inI d1) (i3 : inI n2) (i4 : inI d2) (w : World) :
    Calls Try.prog 34 #[.agg #[.int .i64 n1, .int .i64 d1], .agg #[.int .i64 n2, .int .i64 d2]] w fun e w' => e = .returned (Rat.opOut (· - ·) n1 d1 n2 d2) ∧ Below w.heap.size w w' := by
  rw [sub_add n1 d1 n2 d2 i3]
  have AD := fun w => add_any n1 d1 (IntKind.i64.wrap (-n2)) d2 i1 i2 (wrap_inI _) i4 w
  obtain ⟨a, b, x, ho⟩ := opOut_form (· + ·) n1 d1 (IntKind.i64.wrap (-n2)) d2
  rw [ho] at AD ⊢
  exact sub_raw n1 d1 n2 d2 _ a b x rfl (Lib.hid AD) w

set_option maxHeartbeats 1000000 in
set_option maxRecDepth 100000 in
theorem compare_no (n1 d1 n2 d2 : Int) (VA : Hid (∀ w : World, Calls Try.prog 62 #[.agg #[.int .i64 n1, .int .i64 d1], .agg #[.int .i64 n2, .int .i64 d2]] w fun e w' => e = .returned (.bool false) ∧ Below w.heap.size w w')) (w : World) :
    Calls Try.prog 37 #[.agg #[.int .i64 n1, .int .i64 d1], .agg #[.int .i64 n2, .int .i64 d2]] w fun e w' => e = .returned (.int .i64 0) ∧ Below w.heap.size w w' := by
  go_enter Try.func37, Try.ntmps37
  go_wp2_with fail
  with_reducible refine (VA.out _).mono ?_
  rintro e w1 ⟨rfl, hb1⟩
  have T1 := Lib.hid (P2.step hb1 (P2.start w n1 d1 n2 d2))
  clear hb1 VA
  obtain ⟨_, u1, u2, u3, u4⟩ := T1.out.all
  go_wp2
  go_ret
  exact ⟨rfl, T1.out.has.1⟩
set_option maxHeartbeats 1000000 in
set_option maxRecDepth 100000 in
theorem compare_same (n1 d1 : Int) (VA : Hid (∀ w : World, Calls Try.prog 62 #[.agg #[.int .i64 n1, .int .i64 d1], .agg #[.int .i64 n1, .int .i64 d1]] w fun e w' => e = .returned (.bool true) ∧ Below w.heap.size w w')) (w : World) :
    Calls Try.prog 37 #[.agg #[.int .i64 n1, .int .i64 d1], .agg #[.int .i64 n1, .int .i64 d1]] w fun e w' => e = .returned (.int .i64 0) ∧ Below w.heap.size w w' := by
  go_enter Try.func37, Try.ntmps37
  go_wp2_with fail
  with_reducible refine (VA.out _).mono ?_
  rintro e w1 ⟨rfl, hb1⟩
  have T1 := Lib.hid (P2.step hb1 (P2.start w n1 d1 n1 d1))
  clear hb1 VA
  obtain ⟨_, u1, u2, u3, u4⟩ := T1.out.all
  go_wp2
  go_ret
  exact ⟨rfl, T1.out.has.1⟩
set_option maxHeartbeats 4000000 in
set_option maxRecDepth 100000 in
theorem compare_diff (n1 d1 n2 d2 a1 a2 b1 b2 : Int) (t : Bool) (hne : ¬ (n1 = n2 ∧ d1 = d2)) (VA : Hid (∀ w : World, Calls Try.prog 62 #[.agg #[.int .i64 n1, .int .i64 d1], .agg #[.int .i64 n2, .int .i64 d2]] w fun e w' => e = .returned (.bool true) ∧ Below w.heap.size w w'))
    (PA : Hid (∀ w : World, Calls Try.prog 63 #[.int .i64 n1, .int .i64 d2] w fun e w' => e = .returned (.agg #[.int .u64 a1, .int .u64 a2]) ∧ Below w.heap.size w w'))
    (PB : Hid (∀ w : World, Calls Try.prog 63 #[.int .i64 n2, .int .i64 d1] w fun e w' => e = .returned (.agg #[.int .u64 b1, .int .u64 b2]) ∧ Below w.heap.size w w'))
    (LE : Hid (∀ w : World, Calls Try.prog 64 #[.agg #[.int .u64 a1, .int .u64 a2], .agg #[.int .u64 b1, .int .u64 b2]] w fun e w' => e = .returned (.bool t) ∧ Below w.heap.size w w')) (w : World) :
    Calls Try.prog 37 #[.agg #[.int .i64 n1, .int .i64 d1], .agg #[.int .i64 n2, .int .i64 d2]] w fun e w' => e = .returned (.int .i64 (if t then -1 else 1)) ∧ Below w.heap.size w w' := by
  have hcases : (¬ n1 = n2) ∨ (n1 = n2 ∧ ¬ d1 = d2) := by
    by_cases h : n1 = n2
    · exact .inr ⟨h, fun h2 => hne ⟨h, h2⟩⟩
    · exact .inl h
  clear hne
  rcases hcases with hh | ⟨rfl, hh⟩
  · go_enter Try.func37, Try.ntmps37
    go_wp2_with fail
    with_reducible refine (VA.out _).mono ?_
    rintro e w1 ⟨rfl, hb1⟩
    have hk1 := P2k.mk (P2.step hb1 (P2.start w n1 d1 n2 d2))
    clear hb1 VA
    have h0 := hk1.out.all
    obtain ⟨_, u1, u2, u3, u4⟩ := h0
    go_upto_region 3 with fail
    have h0 := hk1.out.all
    clear u1 u2 u3 u4
    go_region_held3 (fun V => P2 w n1 d1 n2 d2 V ∧ V.cell? ⟨w.heap.size, 0, none⟩ = some (.int .i64 n1) ∧ V.cell? ⟨w.heap.size, 1, none⟩ = some (.int .i64 d1) ∧ V.cell? ⟨w.heap.size + 1, 0, none⟩ = some (.int .i64 n2) ∧ V.cell? ⟨w.heap.size + 1, 1, none⟩ = some (.int .i64 d2))
      ((refine P2.all ?_; (with_reducible repeat (first | exact P2k.out (by assumption) | apply P2.drew))))
      (first
        | (go_at_call 63; (with_reducible first | (refine (PA.out _).mono ?_) | (refine (PB.out _).mono ?_)); rintro e w' ⟨rfl, hb⟩; (have hk := P2k.mk (P2.step hb (by (with_reducible repeat (first | exact P2k.out (by assumption) | apply P2.drew))))))
        | (go_at_call 64; (with_reducible refine (LE.out _).mono ?_); rintro e w' ⟨rfl, hb⟩; (have hk := P2k.mk (P2.step hb (by (with_reducible repeat (first | exact P2k.out (by assumption) | apply P2.drew))))); (have HZ := Lib.hid hk)))
    cases t
    · go_wp2
      go_ret
      exact ⟨rfl, HZ.out.out.has.1⟩
    · go_wp2
      go_ret
      exact ⟨rfl, HZ.out.out.has.1⟩
  · go_enter Try.func37, Try.ntmps37
    go_wp2_with fail
    with_reducible refine (VA.out _).mono ?_
    rintro e w1 ⟨rfl, hb1⟩
    have hk1 := P2k.mk (P2.step hb1 (P2.start w n1 d1 n1 d2))
    clear hb1 VA
    have h0 := hk1.out.all
    obtain ⟨_, u1, u2, u3, u4⟩ := h0
    go_upto_region 3 with fail
    have h0 := hk1.out.all
    clear u1 u2 u3 u4
    go_region_held3 (fun V => P2 w n1 d1 n1 d2 V ∧ V.cell? ⟨w.heap.size, 0, none⟩ = some (.int .i64 n1) ∧ V.cell? ⟨w.heap.size, 1, none⟩ = some (.int .i64 d1) ∧ V.cell? ⟨w.heap.size + 1, 0, none⟩ = some (.int .i64 n1) ∧ V.cell? ⟨w.heap.size + 1, 1, none⟩ = some (.int .i64 d2))
      ((refine P2.all ?_; (with_reducible repeat (first | exact P2k.out (by assumption) | apply P2.drew))))
      (first
        | (go_at_call 63; (with_reducible first | (refine (PA.out _).mono ?_) | (refine (PB.out _).mono ?_)); rintro e w' ⟨rfl, hb⟩; (have hk := P2k.mk (P2.step hb (by (with_reducible repeat (first | exact P2k.out (by assumption) | apply P2.drew))))))
        | (go_at_call 64; (with_reducible refine (LE.out _).mono ?_); rintro e w' ⟨rfl, hb⟩; (have hk := P2k.mk (P2.step hb (by (with_reducible repeat (first | exact P2k.out (by assumption) | apply P2.drew))))); (have HZ := Lib.hid hk)))
    cases t
    · go_wp2
      go_ret
      exact ⟨rfl, HZ.out.out.has.1⟩
    · go_wp2
      go_ret
      exact ⟨rfl, HZ.out.out.has.1⟩
theorem compare_any (n1 d1 n2 d2 : Int) (i1 : inI n1) (i2 : inI d1) (i3 : inI n2) (i4 : inI d2) (w : World) :
    Calls Try.prog 37 #[.agg #[.int .i64 n1, .int .i64 d1], .agg #[.int .i64 n2, .int .i64 d2]] w fun e w' => e = .returned (.int .i64 (Rat.cmpOut n1 d1 n2 d2)) ∧ Below w.heap.size w w' := by
  unfold Rat.cmpOut
  by_cases h : Rat.chk n1 d1 ∧ Rat.chk n2 d2
  · rw [if_pos h]
    have VA := Lib.hid fun w => valid_yes n1 d1 n2 d2 h.1 h.2 w
    obtain ⟨D1, rfl, hx⟩ := Rat.chk_nat h.1
    obtain ⟨D2, rfl, hy⟩ := Rat.chk_nat h.2
    rw [Int.toNat_natCast, Int.toNat_natCast]
    clear h
    by_cases he : n1 = n2 ∧ (D1 : Int) = D2
    · obtain ⟨rfl, h2⟩ := he
      have h3 : D1 = D2 := by omega
      subst h3
      rw [if_neg (_root_.Rat.lt_irrefl), if_neg (_root_.Rat.lt_irrefl)]
      exact compare_same n1 D1 VA w
    · obtain ⟨b1, b2, b3, _, _⟩ := chk_bounds hx
      obtain ⟨b4, b5, b6, _, _⟩ := chk_bounds hy
      have f1 := far_two b1 b5
      have f2 := far_two b4 b2
      have h1 := compare_diff n1 D1 n2 D2 _ _ _ _ _ he VA (Lib.hid fun w => product_any n1 D2 i1 i4 w) (Lib.hid fun w => product_any n2 D1 i3 i2 w) (Lib.hid fun w => less_any (n1 * D2) (n2 * D1) (by unfold near; omega) w) w
      have e : (if decide (n1 * (D2 : Int) < n2 * (D1 : Int)) = true then (-1 : Int) else 1) = if Rat.toQ n1 D1 < Rat.toQ n2 D2 then -1 else if Rat.toQ n2 D2 < Rat.toQ n1 D1 then 1 else 0 := by
        by_cases hl : n1 * (D2 : Int) < n2 * (D1 : Int)
        · rw [decide_eq_true hl, if_pos rfl, if_pos ((Rat.toQ_lt hx hy).2 hl)]
        · rw [decide_eq_false hl, if_neg (mt (Rat.toQ_lt hx hy).1 hl)]
          have hne : n1 * (D2 : Int) ≠ n2 * (D1 : Int) := fun heq => he (by
            have h5 : Rat.toQ n1 D1 = Rat.toQ n2 D2 := by
              unfold Rat.toQ
              exact (_root_.Rat.mkRat_eq_iff (by omega) (by omega)).2 heq
            obtain ⟨h6, h7⟩ := Rat.toQ_eq hx hy h5
            exact ⟨h6, by omega⟩)
          rw [if_pos ((Rat.toQ_lt hy hx).2 (by omega))]
          simp
      rw [e] at h1
      exact h1
  · rw [if_neg h]
    exact compare_no n1 d1 n2 d2 (Lib.hid fun w => valid_no n1 d1 n2 d2 i1 i2 i3 i4 h w) w
end Go.Proofs.Ytbiegbnncnjnmaa.Pro
namespace Go.Proofs.Ytbiegbnncnjnmaa.Pro
open Go.RowKit

/-- Two fractions in their blocks, and the result's block. -/
structure F3 (w : World) (n1 d1 n2 d2 : Int) (V : World) : Prop where
  has : Has w [(w.heap.size, #[.int .i64 n1, .int .i64 d1], 23), (w.heap.size + 1, #[.int .i64 n2, .int .i64 d2], 23), (w.heap.size + 1 + 1, #[.int .i64 0, .int .i64 0], 23)] V
theorem F3.start (w : World) (n1 d1 n2 d2 : Int) : F3 w n1 d1 n2 d2 (((w.alloc (.cells #[.int .i64 n1, .int .i64 d1] 23)).alloc (.cells #[.int .i64 n2, .int .i64 d2] 23)).alloc (.cells #[.int .i64 0, .int .i64 0] 23)) := by
  have h := (((Has.start w).alloc #[.int .i64 n1, .int .i64 d1] 23).alloc #[.int .i64 n2, .int .i64 d2] 23).alloc #[.int .i64 0, .int .i64 0] 23
  simp only [World.size_alloc] at h
  exact ⟨h.sub (by simp)⟩
theorem F3.step {w V V2 : World} {n1 d1 n2 d2 : Int} (hb : Below V.heap.size V V2) (h : F3 w n1 d1 n2 d2 V) : F3 w n1 d1 n2 d2 V2 := ⟨h.has.step hb⟩
theorem F3.rowR {w V : World} {n1 d1 n2 d2 : Int} (h : F3 w n1 d1 n2 d2 V) : V.heap[w.heap.size + 1 + 1]? = some (.cells #[.int .i64 0, .int .i64 0] 23 (0, 0)) := h.has.row (by simp)
theorem F3.rowX {w V : World} {n1 d1 n2 d2 : Int} (h : F3 w n1 d1 n2 d2 V) : V.heap[w.heap.size]? = some (.cells #[.int .i64 n1, .int .i64 d1] 23 (0, 0)) := h.has.row (by simp)
theorem F3.rowY {w V : World} {n1 d1 n2 d2 : Int} (h : F3 w n1 d1 n2 d2 V) : V.heap[w.heap.size + 1]? = some (.cells #[.int .i64 n2, .int .i64 d2] 23 (0, 0)) := h.has.row (by simp)
theorem F3.lt {w V : World} {n1 d1 n2 d2 : Int} (h : F3 w n1 d1 n2 d2 V) : w.heap.size + 1 + 1 < V.heap.size := (Array.getElem?_eq_some_iff.1 h.rowR).1
theorem res_div {V : World} {g : Nat} {a b : Int} {tmps : Array Value} {x : Value} (hp : tmps.getD 4 undef = .pointer (some ⟨g, 0, none⟩)) (hx : tmps.getD 5 undef = x) (hg : V.heap[g]? = some (.cells #[.int .i64 a, .int .i64 b] 23 (0, 0))) :
    (results Try.f71 tmps).run Try.prog V = .ok (.tuple #[.agg #[.int .i64 a, .int .i64 b], x]) V := by
  have h := res_cell_tmp (P := Try.prog) (fn := Try.f71) (p := 4) (u := 5) (ty := 23) rfl tmps V g 23 _ (0, 0) _ hp hg Try.underlying23 rfl info23
  rw [hx] at h
  exact h
set_option maxHeartbeats 1000000 in
set_option maxRecDepth 100000 in
theorem div_no (n1 d1 n2 d2 : Int) (VA : Hid (∀ w : World, Calls Try.prog 62 #[.agg #[.int .i64 n1, .int .i64 d1], .agg #[.int .i64 n2, .int .i64 d2]] w fun e w' => e = .returned (.bool false) ∧ Below w.heap.size w w')) (w : World) :
    Calls Try.prog 71 #[.agg #[.int .i64 n1, .int .i64 d1], .agg #[.int .i64 n2, .int .i64 d2]] w fun e w' => e = .returned (.tuple #[.agg #[.int .i64 0, .int .i64 0], .int .i64 1]) ∧ Below w.heap.size w w' := by
  go_enter Try.func71, Try.ntmps71
  go_wp2_with fail
  with_reducible refine (VA.out _).mono ?_
  rintro e w1 ⟨rfl, hb1⟩
  have T1 := Lib.hid (F3.step hb1 (F3.start w n1 d1 n2 d2))
  clear hb1 VA
  obtain ⟨c0, c1⟩ := cells2 T1.out.rowR
  obtain ⟨f0, f1⟩ := frozen2 T1.out.rowR
  go_wp2
  have hC := heap_setCell_same _ _ 1 _ _ (.int .i64 0) (heap_setCell_same _ _ 0 _ _ (.int .i64 0) T1.out.rowR)
  refine bodyPost_ret (res_div rfl rfl hC) rfl ?_
  exact ⟨rfl, (T1.out.has.1.setCell (by simp; omega) _).setCell (by simp; omega) _⟩
set_option maxHeartbeats 1000000 in
set_option maxRecDepth 100000 in
theorem div_err (n1 d1 n2 d2 a b x : Int) (hx : ¬ x = 0) (VA : Hid (∀ w : World, Calls Try.prog 62 #[.agg #[.int .i64 n1, .int .i64 d1], .agg #[.int .i64 n2, .int .i64 d2]] w fun e w' => e = .returned (.bool true) ∧ Below w.heap.size w w')) (MK : Hid (∀ w : World, Calls Try.prog 61 #[.int .i64 d2, .int .i64 n2] w fun e w' => e = .returned (.tuple #[.agg #[.int .i64 a, .int .i64 b], .int .i64 x]) ∧ Below w.heap.size w w')) (w : World) :
    Calls Try.prog 71 #[.agg #[.int .i64 n1, .int .i64 d1], .agg #[.int .i64 n2, .int .i64 d2]] w fun e w' => e = .returned (.tuple #[.agg #[.int .i64 0, .int .i64 0], .int .i64 x]) ∧ Below w.heap.size w w' := by
  have hxb : (x != 0) = true := by simp [hx]
  go_enter Try.func71, Try.ntmps71
  go_wp2_with fail
  with_reducible refine (VA.out _).mono ?_
  rintro e w1 ⟨rfl, hb1⟩
  have T1 := Lib.hid (F3.step hb1 (F3.start w n1 d1 n2 d2))
  clear hb1 VA
  obtain ⟨c0, c1⟩ := cells2 T1.out.rowY
  go_wp2_with fail
  with_reducible refine (MK.out _).mono ?_
  rintro e w2 ⟨rfl, hb2⟩
  have T2 := Lib.hid (F3.step hb2 T1.out)
  clear hb2 MK T1 c0 c1
  have T3 := Lib.hid (F3.step ((Below.refl w2.heap.size w2).alloc (Nat.le_refl _) (.cells #[.int .i64 a, .int .i64 b] 23)) T2.out)
  go_upto_region 4 with fail
  generalize w2.alloc (.cells #[.int .i64 a, .int .i64 b] 23) = w3 at *
  clear T2
  obtain ⟨c0, c1⟩ := cells2 T3.out.rowR
  obtain ⟨f0, f1⟩ := frozen2 T3.out.rowR
  go_wp2
  have hC := heap_setCell_same _ _ 1 _ _ (.int .i64 0) (heap_setCell_same _ _ 0 _ _ (.int .i64 0) T3.out.rowR)
  refine bodyPost_ret (res_div rfl rfl hC) rfl ?_
  exact ⟨rfl, (T3.out.has.1.setCell (by simp; omega) _).setCell (by simp; omega) _⟩
set_option maxHeartbeats 1000000 in
set_option maxRecDepth 100000 in
theorem div_ok (n1 d1 n2 d2 a b p q y : Int) (VA : Hid (∀ w : World, Calls Try.prog 62 #[.agg #[.int .i64 n1, .int .i64 d1], .agg #[.int .i64 n2, .int .i64 d2]] w fun e w' => e = .returned (.bool true) ∧ Below w.heap.size w w')) (MK : Hid (∀ w : World, Calls Try.prog 61 #[.int .i64 d2, .int .i64 n2] w fun e w' => e = .returned (.tuple #[.agg #[.int .i64 a, .int .i64 b], .int .i64 0]) ∧ Below w.heap.size w w'))
    (MU : Hid (∀ w : World, Calls Try.prog 70 #[.agg #[.int .i64 n1, .int .i64 d1], .agg #[.int .i64 a, .int .i64 b]] w fun e w' => e = .returned (.tuple #[.agg #[.int .i64 p, .int .i64 q], .int .i64 y]) ∧ Below w.heap.size w w')) (w : World) :
    Calls Try.prog 71 #[.agg #[.int .i64 n1, .int .i64 d1], .agg #[.int .i64 n2, .int .i64 d2]] w fun e w' => e = .returned (.tuple #[.agg #[.int .i64 p, .int .i64 q], .int .i64 y]) ∧ Below w.heap.size w w' := by
  go_enter Try.func71, Try.ntmps71
  go_wp2_with fail
  with_reducible refine (VA.out _).mono ?_
  rintro e w1 ⟨rfl, hb1⟩
  have T1 := Lib.hid (F3.step hb1 (F3.start w n1 d1 n2 d2))
  clear hb1 VA
  obtain ⟨c0, c1⟩ := cells2 T1.out.rowY
  go_wp2_with fail
  with_reducible refine (MK.out _).mono ?_
  rintro e w2 ⟨rfl, hb2⟩
  have T2 := Lib.hid (F3.step hb2 T1.out)
  clear hb2 MK T1 c0 c1
  have T3 := Lib.hid (F3.step ((Below.refl w2.heap.size w2).alloc (Nat.le_refl _) (.cells #[.int .i64 a, .int .i64 b] 23)) T2.out)
  have hz := heap_alloc_new w2 (.cells #[.int .i64 a, .int .i64 b] 23)
  go_upto_region 4 with fail
  generalize w2.alloc (.cells #[.int .i64 a, .int .i64 b] 23) = w3 at *
  generalize w2.heap.size = g at *
  clear T2
  obtain ⟨z0, z1⟩ := cells2 hz
  obtain ⟨c0, c1⟩ := cells2 T3.out.rowX
  clear hz
  go_wp2_with fail
  with_reducible refine (MU.out _).mono ?_
  rintro e w4 ⟨rfl, hb4⟩
  have T4 := Lib.hid (F3.step hb4 T3.out)
  clear hb4 MU T3 c0 c1 z0 z1
  obtain ⟨c0, c1⟩ := cells2 T4.out.rowR
  obtain ⟨f0, f1⟩ := frozen2 T4.out.rowR
  go_wp2
  have hC := heap_setCell_same _ _ 1 _ _ (.int .i64 q) (heap_setCell_same _ _ 0 _ _ (.int .i64 p) T4.out.rowR)
  refine bodyPost_ret (res_div rfl rfl hC) rfl ?_
  exact ⟨rfl, (T4.out.has.1.setCell (by simp; omega) _).setCell (by simp; omega) _⟩
theorem make_inv {n : Int} {D : Nat} (h : Rat.chk n D) (h0 : n ≠ 0) : Rat.makeOut (D : Int) n = .tuple #[.agg #[.int .i64 (n.sign * (D : Int)), .int .i64 (n.natAbs : Nat)], .int .i64 0] := by
  obtain ⟨h1, h2, h3⟩ := h
  rw [Int.natAbs_natCast] at h3
  unfold Rat.makeOut
  rw [Int.natAbs_natCast, Nat.gcd_comm, h3, Nat.div_one, Nat.div_one, Rat.sign_pos' (show (0 : Int) < D by omega), Int.one_mul]
  refine Rat.pairOut_yes ?_ (by omega)
  rcases Int.lt_or_gt_of_ne h0 with hs | hs
  · rw [Rat.sign_neg' hs]; omega
  · rw [Rat.sign_pos' hs]; omega
theorem div_any (n1 d1 n2 d2 : Int) (i1 : inI n1) (i2 : inI d1) (i3 : inI n2) (i4 : inI d2) (w : World) :
    Calls Try.prog 71 #[.agg #[.int .i64 n1, .int .i64 d1], .agg #[.int .i64 n2, .int .i64 d2]] w fun e w' => e = .returned (Rat.divOut n1 d1 n2 d2) ∧ Below w.heap.size w w' := by
  unfold Rat.divOut
  by_cases h : Rat.chk n1 d1 ∧ Rat.chk n2 d2
  · have VA := Lib.hid fun w => valid_yes n1 d1 n2 d2 h.1 h.2 w
    by_cases h0 : n2 = 0
    · rw [if_pos ⟨h.1, h.2, h0⟩]
      subst h0
      exact div_err n1 d1 0 d2 0 0 26 (by decide) VA (Lib.hid fun w => make_zero d2 w) w
    · rw [if_neg (fun hh => h0 hh.2.2), Rat.opOut_yes h]
      obtain ⟨D1, rfl, hx⟩ := Rat.chk_nat h.1
      obtain ⟨D2, rfl, hy⟩ := Rat.chk_nat h.2
      obtain ⟨hc, hq⟩ := Rat.toQ_inv hy h0
      have MK := fun w => make_any D2 n2 i4 i3 h0 w
      rw [make_inv hy h0] at MK
      have MU := fun w => mul_any n1 D1 (n2.sign * (D2 : Int)) (n2.natAbs : Nat) i1 i2 (chk_bounds hc).2.2.2.1 (chk_bounds hc).2.2.2.2 w
      rw [Rat.opOut_yes ⟨hx, hc⟩, Int.toNat_natCast, Int.toNat_natCast, hq, ← _root_.Rat.div_def] at MU
      rw [Int.toNat_natCast, Int.toNat_natCast]
      obtain ⟨p, q, y, ho⟩ : ∃ p q y : Int, Rat.outQ (Rat.toQ n1 D1 / Rat.toQ n2 D2) = .tuple #[.agg #[.int .i64 p, .int .i64 q], .int .i64 y] := Rat.pairOut_form _ _
      rw [ho] at MU ⊢
      exact div_ok n1 D1 n2 D2 _ _ p q y VA (Lib.hid MK) (Lib.hid MU) w
  · rw [if_neg (fun hh => h ⟨hh.1, hh.2.1⟩), Rat.opOut_no h]
    exact div_no n1 d1 n2 d2 (Lib.hid fun w => valid_no n1 d1 n2 d2 i1 i2 i3 i4 h w) w

theorem floor_math (n : Int) (D : Nat) (hn : n < 0) (hD : 0 < D) : (n.tmod D < 0 → n.tdiv D - 1 = n / (D : Int)) ∧ (0 ≤ n.tmod D → n.tdiv D = n / (D : Int)) ∧ n ≤ n.tdiv D ∧ n.tdiv D ≤ 0 := by
  have h1 := Int.mul_ediv_add_emod n (D : Int)
  have h2 := Int.emod_nonneg n (show (D : Int) ≠ 0 by omega)
  have h3 := Int.emod_lt_of_pos n (show 0 < (D : Int) by omega)
  obtain ⟨m, hm⟩ := Int.eq_ofNat_of_zero_le (show 0 ≤ -n by omega)
  have e0 : n = -(m : Int) := by omega
  have e1 : n.tdiv D = -((m / D : Nat) : Int) := by rw [e0, Int.neg_tdiv, Int.tdiv_eq_ediv_of_nonneg (by omega)]; simp
  have e2 : n.tmod D = -((m % D : Nat) : Int) := by rw [e0, Int.neg_tmod, Int.tmod_eq_emod_of_nonneg (by omega)]; simp
  have h4 := Nat.div_add_mod m D
  have h5 := Nat.mod_lt m hD
  have h6 : m / D ≤ m := Nat.div_le_self _ _
  rw [e1, e2]
  have e3 : (m : Int) = (D : Int) * ((m / D : Nat) : Int) + ((m % D : Nat) : Int) := by
    have h : ((D * (m / D) + m % D : Nat) : Int) = (m : Int) := by rw [h4]
    push_cast at h ⊢
    exact h.symm
  generalize m / D = q at *
  generalize m % D = r at *
  generalize n / (D : Int) = z at *
  generalize n % (D : Int) = y at *
  have key : (D : Int) * (z + q) = -(r : Int) - y := by rw [Int.mul_add]; omega
  have hlo : -2 < z + q := by
    rcases (show -2 < z + q ∨ z + q ≤ -2 by omega) with h | h
    · exact h
    · have := Int.mul_le_mul_of_nonneg_left h (show (0 : Int) ≤ D by omega)
      omega
  have hhi : z + q < 1 := by
    rcases (show z + q < 1 ∨ 1 ≤ z + q by omega) with h | h
    · exact h
    · have := Int.mul_le_mul_of_nonneg_left h (show (0 : Int) ≤ D by omega)
      omega
  have hc : z + q = -1 ∨ z + q = 0 := by omega
  refine ⟨fun hr => ?_, fun hr => ?_, by omega, by omega⟩
  · rcases hc with h | h
    · omega
    · rw [h] at key; omega
  · rcases hc with h | h
    · rw [h] at key; omega
    · omega
end Go.Proofs.Ytbiegbnncnjnmaa.Pro
