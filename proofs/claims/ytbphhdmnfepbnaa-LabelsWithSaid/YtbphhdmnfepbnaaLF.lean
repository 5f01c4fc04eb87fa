/- Layer 5: Compare. -/
import Derived.Deep.QuietTactic
import Derived.BigQuiet
import Derived.Deep.RegionHeld3
import Derived.Deep.DeepCutAuto
import Derived.Test.YtbphhdmnfepbnaaLE
set_option linter.unusedVariables false
set_option linter.unusedSimpArgs false
namespace Go.Proofs.Ytbphhdmnfepbnaa.Lab
open Go.RowKit
/-- How two labels compare; two lists. -/
def cmpX (x y : Lb) : Int := if cmpS x.n y.n = 0 then cmpS x.v y.v else cmpS x.n y.n
def cmpL : List Lb → List Lb → Int
  | [], [] => 0
  | [], _ :: _ => -1
  | _ :: _, [] => 1
  | x :: a, y :: b => if cmpX x y = 0 then cmpL a b else cmpX x y
structure CmpAt (a b : List Lb) (k : Nat) : Prop where
  eq : cmpL a b = cmpL (a.drop k) (b.drop k)
theorem CmpAt.start (a b : List Lb) : CmpAt a b 0 := ⟨rfl⟩
theorem CmpAt.no {a b : List Lb} {k : Nat} (H : CmpAt a b k) (ha : k < a.length) (hb : k < b.length) (h : ¬ cmpX a[k] b[k] = 0) : cmpL a b = cmpX a[k] b[k] := by
  rw [H.eq, drop_at ha, drop_at hb, cmpL, if_neg h]
theorem CmpAt.next {a b : List Lb} {k : Nat} (H : CmpAt a b k) (ha : k < a.length) (hb : k < b.length) (h : cmpX a[k] b[k] = 0) : CmpAt a b (k + 1) := by
  refine ⟨?_⟩
  rw [H.eq, drop_at ha, drop_at hb, cmpL, if_pos h]
theorem CmpAt.less {a b : List Lb} {k : Nat} (H : CmpAt a b k) (ha : a.length = k) (hb : k < b.length) : cmpL a b = -1 := by
  rw [H.eq, List.drop_of_length_le (by omega), drop_at hb, cmpL]
theorem CmpAt.more {a b : List Lb} {k : Nat} (H : CmpAt a b k) (ha : k < a.length) (hb : b.length = k) : cmpL a b = 1 := by
  rw [H.eq, List.drop_of_length_le (l := b) (by omega), drop_at ha, cmpL]
theorem CmpAt.same {a b : List Lb} {k : Nat} (H : CmpAt a b k) (ha : a.length = k) (hb : b.length = k) : cmpL a b = 0 := by
  rw [H.eq, List.drop_of_length_le (by omega), List.drop_of_length_le (by omega), cmpL]
theorem cmpX_n {x y : Lb} (h : ¬ cmpS x.n y.n = 0) : cmpX x y = cmpS x.n y.n := if_neg h
theorem cmpX_v {x y : Lb} (h : cmpS x.n y.n = 0) : cmpX x y = cmpS x.v y.v := if_pos h
theorem cmpS_bd (a b : ByteArray) : -1 ≤ cmpS a b ∧ cmpS a b ≤ 1 := by
  unfold cmpS
  split
  · omega
  · split <;> omega
theorem cmpX_bd (x y : Lb) : -1 ≤ cmpX x y ∧ cmpX x y ≤ 1 := by
  unfold cmpX
  split
  · exact cmpS_bd _ _
  · exact cmpS_bd _ _
theorem quiet_add_left {P : Program} {f : FuncId} {args : Array Value} {w : World} {a n : Nat} {v : Value}
    (h : Calls P f args (w.drewN (a + n)) fun e w' => e = .returned v ∧ w.drewN (a + n) = w') :
    Calls P f args (w.drewN (a + n)) fun e w'' => e = .returned v ∧ ∃ m, w'' = w.drewN (a + m) :=
  h.mono fun _ _ ⟨he, hm⟩ => ⟨he, n, hm.symm⟩
theorem quiet_left {P : Program} {f : FuncId} {args : Array Value} {w : World} {n : Nat} {v : Value}
    (h : Calls P f args (w.drewN n) fun e w' => e = .returned v ∧ w.drewN n = w') : Calls P f args (w.drewN n) fun e w'' => e = .returned v ∧ ∃ m, w'' = w.drewN m :=
  h.mono fun _ _ ⟨he, hm⟩ => ⟨he, n, hm.symm⟩
set_option maxHeartbeats 2000000 in
theorem refCompare_any (a b : List Lb) (ha : a.length ≤ maxLen) (hb : b.length ≤ maxLen) (A C : Option Addr) (c d BA BB : Nat) (w : World) (hA : LS w BA A a) (hC : LS w BB C b) :
    Calls Try.prog 32 #[.slice A a.length c, .slice C b.length d] w fun e w' => e = .returned (.int .i64 (cmpL a b)) ∧ ∃ n, w' = w.drewN n := by
  unfold maxLen at ha hb
  have HA := Lib.hid hA
  have HC := Lib.hid hC
  clear hA hC
  have HS := Lib.hid (CmpAt.start a b)
  go_enter Try.func32, Try.ntmps32
  go_wp2
  go_loopw [5] (fun i wr => ∃ k : Nat, k ≤ a.length ∧ k ≤ b.length ∧ i = .int .i64 k ∧ Hid (CmpAt a b k) ∧ Hid (∃ n, wr = w.drewN n)) (fun i _ => a.length - (intOf i).toNat)
  case atStart => exact ⟨0, by omega, by omega, rfl, HS, 0, rfl⟩
  case round =>
    clear HS
    obtain ⟨k, hk, hk2, rfl, H, hwr⟩ := hrel
    obtain ⟨n, rfl⟩ := hwr.out
    clear hwr
    by_cases hlt : k < a.length
    · by_cases hlt2 : k < b.length
      · obtain ⟨bl, off, rfl, hbl, h1, h2⟩ := HA.out.at_ hlt
        obtain ⟨bl2, off2, rfl, hbl2, h3, h4⟩ := HC.out.at_ hlt2
        have T1 := fun w => text_any a[k].n b[k].n w
        have T2 := fun w => text_any a[k].v b[k].v w
        by_cases hz : cmpS a[k].n b[k].n = 0
        · have HX := Lib.hid (cmpX_v hz)
          rw [hz] at T1
          clear hz
          by_cases hy : cmpS a[k].v b[k].v = 0
          · have HE := Lib.hid (H.out.next hlt hlt2 (HX.out.trans hy))
            rw [hy] at T2
            have Q1 := Lib.hid T1
            have Q2 := Lib.hid T2
            clear T1 T2 hy HX H
            go_wp2
            go_quiet ((go_at_call 54; first | exact quiet_left (Q1.out _) | exact quiet_add_left (Q1.out _)))
            go_wp2
            go_quiet ((go_at_call 54; first | exact quiet_left (Q2.out _) | exact quiet_add_left (Q2.out _)))
            go_wp2
            go_roundw
            case rel => exact ⟨k + 1, by omega, by omega, by go_num, HE, _, rfl⟩
            case measure => simp [intOf]; omega
          · have hyb : (cmpS a[k].v b[k].v != 0) = true := by simp [hy]
            have HE := Lib.hid (H.out.no hlt hlt2 (by rw [HX.out]; exact hy))
            have HE2 := Lib.hid (HE.out.trans HX.out)
            have Q1 := Lib.hid T1
            have Q2 := Lib.hid T2
            clear T1 T2 hy HX H HE
            generalize cmpS a[k].v b[k].v = z at *
            go_wp2
            go_quiet ((go_at_call 54; first | exact quiet_left (Q1.out _) | exact quiet_add_left (Q1.out _)))
            go_wp2
            go_quiet ((go_at_call 54; first | exact quiet_left (Q2.out _) | exact quiet_add_left (Q2.out _)))
            go_wp2
            go_ret
            rw [HE2.out]
            exact ⟨rfl, _, rfl⟩
        · have hyb : (cmpS a[k].n b[k].n != 0) = true := by simp [hz]
          have HX := Lib.hid (cmpX_n hz)
          have HE := Lib.hid (H.out.no hlt hlt2 (by rw [HX.out]; exact hz))
          have HE2 := Lib.hid (HE.out.trans HX.out)
          have Q1 := Lib.hid T1
          clear T1 T2 hz HX H HE
          generalize cmpS a[k].n b[k].n = z at *
          go_wp2
          go_quiet ((go_at_call 54; first | exact quiet_left (Q1.out _) | exact quiet_add_left (Q1.out _)))
          go_wp2
          go_ret
          rw [HE2.out]
          exact ⟨rfl, _, rfl⟩
      · have HE := Lib.hid (H.out.more (by omega) (by omega))
        clear H
        have hba : ¬ a.length < b.length := by omega
        have hba2 : b.length < a.length := by omega
        go_wp2
        go_ret
        rw [HE.out]
        exact ⟨rfl, _, rfl⟩
    · by_cases hlt2 : k < b.length
      · have HE := Lib.hid (H.out.less (k := k) (by omega) hlt2)
        clear H
        have hba : a.length < b.length := by omega
        go_wp2
        go_ret
        rw [HE.out]
        exact ⟨rfl, _, rfl⟩
      · have HE := Lib.hid (H.out.same (k := k) (by omega) (by omega))
        clear H
        have hba : ¬ a.length < b.length := by omega
        have hba2 : ¬ b.length < a.length := by omega
        go_wp2
        go_ret
        rw [HE.out]
        exact ⟨rfl, _, rfl⟩

def orI (x y : Int) : Int := if x = 0 then y else x
theorem or_any (x y : Int) (b : Nat) (w : World) (h0 : w.cell? ⟨b, 0, none⟩ = some (.int .i64 x)) (h1 : w.cell? ⟨b, 1, none⟩ = some (.int .i64 y)) :
    Calls Try.prog 52 #[.slice (some ⟨b, 0, none⟩) 2 2] w fun e w' => e = .returned (.int .i64 (orI x y)) ∧ w = w' := by
  have H0 := Lib.hid h0
  have H1 := Lib.hid h1
  clear h0 h1
  go_enter Try.func52, Try.ntmps52
  go_wp2
  go_loop [8] (fun i => (i = .int .i64 0) ∨ (i = .int .i64 1 ∧ Hid (x = 0)) ∨ (i = .int .i64 2 ∧ Hid (x = 0) ∧ Hid (y = 0))) (fun i => 2 - (intOf i).toNat)
  case atStart => exact .inl rfl
  case round =>
    rcases hrel with rfl | ⟨rfl, hx⟩ | ⟨rfl, hx, hy⟩
    · by_cases hx : x = 0
      · have HX := Lib.hid hx
        have hb : (x != 0) = false := by simp [hx]
        clear hx
        have h0 := H0.out
        go_wp2
        go_round
        case rel => exact .inr (.inl ⟨rfl, HX⟩)
        case measure => simp [intOf]
      · have HX : Hid (orI x y = x) := if_neg hx
        have hb : (x != 0) = true := by simp [hx]
        clear hx
        have h0 := H0.out
        go_wp2
        go_ret
        rw [HX.out]
        exact ⟨rfl, rfl⟩
    · by_cases hy : y = 0
      · have HY := Lib.hid hy
        have hb : (y != 0) = false := by simp [hy]
        clear hy
        have h1 := H1.out
        go_wp2
        go_round
        case rel => exact .inr (.inr ⟨rfl, hx, HY⟩)
        case measure => simp [intOf]
      · have HX : Hid (orI x y = y) := if_pos hx.out
        have hb : (y != 0) = true := by simp [hy]
        clear hy
        have h1 := H1.out
        go_wp2
        go_ret
        rw [HX.out]
        exact ⟨rfl, rfl⟩
    · have HX : Hid (orI x y = 0) := (if_pos hx.out : orI x y = y).trans hy.out
      go_wp2
      go_ret
      rw [HX.out]
      exact ⟨rfl, rfl⟩
set_option maxHeartbeats 4000000 in
theorem cmp1_any (x y : Lb) (w : World) : Calls Try.prog 51 #[.agg #[.string x.n, .string x.v], .agg #[.string y.n, .string y.v]] w fun e w' => e = .returned (.int .i64 (cmpX x y)) ∧ Below w.heap.size w w' := by
  have HX : Hid (orI (cmpS x.n y.n) (cmpS x.v y.v) = cmpX x y) := rfl
  obtain ⟨xn, xv⟩ := x
  obtain ⟨yn, yv⟩ := y
  have T1 := Lib.hid (cmpstr_any xn yn)
  have T2 := Lib.hid (cmpstr_any xv yv)
  simp only at HX ⊢
  generalize cmpX ⟨xn, xv⟩ ⟨yn, yv⟩ = z at *
  generalize cmpS xn yn = p at *
  generalize cmpS xv yv = q at *
  have hS : ((w.alloc (.cells #[.string xn, .string xv] 29)).alloc (.cells #[.string yn, .string yv] 29)).drew.cell? ⟨w.heap.size, 0, none⟩ = some (.string xn) ∧
      ((w.alloc (.cells #[.string xn, .string xv] 29)).alloc (.cells #[.string yn, .string yv] 29)).drew.cell? ⟨w.heap.size, 1, none⟩ = some (.string xv) ∧
      ((w.alloc (.cells #[.string xn, .string xv] 29)).alloc (.cells #[.string yn, .string yv] 29)).drew.cell? ⟨w.heap.size + 1, 0, none⟩ = some (.string yn) ∧
      ((w.alloc (.cells #[.string xn, .string xv] 29)).alloc (.cells #[.string yn, .string yv] 29)).drew.cell? ⟨w.heap.size + 1, 1, none⟩ = some (.string yv) := by
    refine ⟨by go_simp, by go_simp, by go_simp, by go_simp⟩
  have HS := Lib.hid hS
  have HS1 : Hid ((((w.alloc (.cells #[.string xn, .string xv] 29)).alloc (.cells #[.string yn, .string yv] 29)).drew.alloc (.cells #[.int .i64 p, .int .i64 q] 3)).cell? ⟨w.heap.size, 0, none⟩ = some (.string xn) ∧
      (((w.alloc (.cells #[.string xn, .string xv] 29)).alloc (.cells #[.string yn, .string yv] 29)).drew.alloc (.cells #[.int .i64 p, .int .i64 q] 3)).cell? ⟨w.heap.size, 1, none⟩ = some (.string xv) ∧
      (((w.alloc (.cells #[.string xn, .string xv] 29)).alloc (.cells #[.string yn, .string yv] 29)).drew.alloc (.cells #[.int .i64 p, .int .i64 q] 3)).cell? ⟨w.heap.size + 1, 0, none⟩ = some (.string yn) ∧
      (((w.alloc (.cells #[.string xn, .string xv] 29)).alloc (.cells #[.string yn, .string yv] 29)).drew.alloc (.cells #[.int .i64 p, .int .i64 q] 3)).cell? ⟨w.heap.size + 1, 1, none⟩ = some (.string yv)) := by
    refine ⟨by go_simp, by go_simp, by go_simp, by go_simp⟩
  have OR := Lib.hid (fun W (h : W = (((w.alloc (.cells #[.string xn, .string xv] 29)).alloc (.cells #[.string yn, .string yv] 29)).drew.alloc (.cells #[.int .i64 p, .int .i64 q] 3))) => or_any p q (w.heap.size + 1 + 1) W (by rw [h]; go_simp) (by rw [h]; go_simp))
  have HB : Hid (Below w.heap.size w (((w.alloc (.cells #[.string xn, .string xv] 29)).alloc (.cells #[.string yn, .string yv] 29)).drew.alloc (.cells #[.int .i64 p, .int .i64 q] 3))) := ((((Below.refl _ w).alloc (Nat.le_refl _) _).alloc (by simp) _).drew).alloc (by simp; omega) _
  clear hS
  go_enter Try.func51, Try.ntmps51
  go_upto_region 1 with fail
  refine wp_region_held_drew (S := (fun V => V.cell? ⟨w.heap.size, 0, none⟩ = some (.string xn) ∧ V.cell? ⟨w.heap.size, 1, none⟩ = some (.string xv) ∧ V.cell? ⟨w.heap.size + 1, 0, none⟩ = some (.string yn) ∧ V.cell? ⟨w.heap.size + 1, 1, none⟩ = some (.string yv))) (by kernel_rfl) HS.out (fun hHeld => ?_)
  refine wpAnyH_take (i := 0) (v := _) rfl (by kernel_rfl) (by kernel_rfl) (by kernel_rfl) (fun _ _ _ h => h) (Or.inl ⟨by rfl, by intro w hSw; (try dsimp only at hSw); obtain ⟨_, _, _, _⟩ := hSw; go_simp; try (with_reducible rfl)⟩) (by assumption) ?_
  try simp only [Act.put, List.setIfInBounds_toArray, List.set_cons_zero, List.set_cons_succ]
  refine wpAnyH_take (i := 1) (v := _) rfl (by kernel_rfl) (by kernel_rfl) (by kernel_rfl) (fun _ _ _ h => h) (Or.inl ⟨by rfl, by intro w hSw; (try dsimp only at hSw); obtain ⟨_, _, _, _⟩ := hSw; go_simp; try (with_reducible rfl)⟩) (by assumption) ?_
  try simp only [Act.put, List.setIfInBounds_toArray, List.set_cons_zero, List.set_cons_succ]
  refine wpAnyH_take (i := 2) (v := _) rfl (by kernel_rfl) (by kernel_rfl) (by kernel_rfl) (fun _ _ _ h => h) (Or.inl ⟨by rfl, by intro w hSw; (try dsimp only at hSw); obtain ⟨_, _, _, _⟩ := hSw; go_simp; try (with_reducible rfl)⟩) (by assumption) ?_
  try simp only [Act.put, List.setIfInBounds_toArray, List.set_cons_zero, List.set_cons_succ]
  refine wpAnyH_take (i := 3) (v := _) rfl (by kernel_rfl) (by kernel_rfl) (by kernel_rfl) (fun _ _ _ h => h) (Or.inl ⟨by rfl, by intro w hSw; (try dsimp only at hSw); obtain ⟨_, _, _, _⟩ := hSw; go_simp; try (with_reducible rfl)⟩) (by assumption) ?_
  try simp only [Act.put, List.setIfInBounds_toArray, List.set_cons_zero, List.set_cons_succ]
  refine wpAnyH_take (i := 5) (v := _) rfl (by kernel_rfl) (by kernel_rfl) (by kernel_rfl) (fun _ _ _ h => h) (Or.inl ⟨by rfl, by intro w hSw; (try dsimp only at hSw); obtain ⟨_, _, _, _⟩ := hSw; go_simp; try (with_reducible rfl)⟩) (by assumption) ?_
  try simp only [Act.put, List.setIfInBounds_toArray, List.set_cons_zero, List.set_cons_succ]
  refine wpAnyH_take (i := 6) (v := _) rfl (by kernel_rfl) (by kernel_rfl) (by kernel_rfl) (fun _ _ _ h => h) (Or.inl ⟨by rfl, by intro w hSw; (try dsimp only at hSw); obtain ⟨_, _, _, _⟩ := hSw; go_simp; try (with_reducible rfl)⟩) (by assumption) ?_
  try simp only [Act.put, List.setIfInBounds_toArray, List.set_cons_zero, List.set_cons_succ]
  refine wpAnyH_take (i := 7) (v := _) rfl (by kernel_rfl) (by kernel_rfl) (by kernel_rfl) (fun _ _ _ h => h) (Or.inl ⟨by rfl, by intro w hSw; (try dsimp only at hSw); obtain ⟨_, _, _, _⟩ := hSw; go_simp; try (with_reducible rfl)⟩) (by assumption) ?_
  try simp only [Act.put, List.setIfInBounds_toArray, List.set_cons_zero, List.set_cons_succ]
  refine wpAnyH_take (i := 8) (v := _) rfl (by kernel_rfl) (by kernel_rfl) (by kernel_rfl) (fun _ _ _ h => h) (Or.inl ⟨by rfl, by intro w hSw; (try dsimp only at hSw); obtain ⟨_, _, _, _⟩ := hSw; go_simp; try (with_reducible rfl)⟩) (by assumption) ?_
  try simp only [Act.put, List.setIfInBounds_toArray, List.set_cons_zero, List.set_cons_succ]
  refine wpAnyH_ready (rs := [4]) (by kernel_rfl) (by simp) ?_
  refine AllReadyH.cons rfl (fun K hK => ?_) AllReadyH.nil
  go_simp
  go_at_call 53
  with_reducible refine Calls.mono (T1.out _) ?_
  rintro e wq ⟨rfl, rfl⟩
  refine hK.out _ _ (by assumption) (fun hHeld => ?_)
  clear hK K
  try simp only [Act.put, List.setIfInBounds_toArray, List.set_cons_zero, List.set_cons_succ]
  refine wpAnyH_ready (rs := [9]) (by kernel_rfl) (by simp) ?_
  refine AllReadyH.cons rfl (fun K hK => ?_) AllReadyH.nil
  go_simp
  go_at_call 53
  with_reducible refine Calls.mono (T2.out _) ?_
  rintro e wq ⟨rfl, rfl⟩
  refine hK.out _ _ (by assumption) (fun hHeld => ?_)
  clear hK K
  try simp only [Act.put, List.setIfInBounds_toArray, List.set_cons_zero, List.set_cons_succ]
  refine wpAnyH_ready (rs := [10]) (by kernel_rfl) (by simp) ?_
  refine AllReadyH.cons rfl (fun K hK => ?_) AllReadyH.nil
  go_simp
  refine hK.out _ _ (HS1.out) (fun hHeld => ?_)
  clear hK K
  try simp only [Act.put, List.setIfInBounds_toArray, List.set_cons_zero, List.set_cons_succ]
  refine wpAnyH_ready (rs := [11]) (by kernel_rfl) (by simp) ?_
  refine AllReadyH.cons rfl (fun K hK => ?_) AllReadyH.nil
  go_simp
  go_at_call 52
  with_reducible refine Calls.mono (OR.out _ rfl) ?_
  rintro e wq ⟨rfl, rfl⟩
  refine hK.out _ _ (by assumption) (fun hHeld => ?_)
  clear hK K
  try simp only [Act.put, List.setIfInBounds_toArray, List.set_cons_zero, List.set_cons_succ]
  refine wpAnyH_ready (rs := [12]) (by kernel_rfl) (by simp) ?_
  refine AllReadyH.cons rfl (fun K hK => ?_) AllReadyH.nil
  go_simp
  refine hK.out _ _ (by assumption) (fun hHeld => ?_)
  clear hK K
  try simp only [Act.put, List.setIfInBounds_toArray, List.set_cons_zero, List.set_cons_succ]
  refine wpAnyH_done (by kernel_rfl) ?_ _
  go_wp2
  go_ret
  exact ⟨by rw [HX.out]; rfl, HB.out⟩

set_option maxHeartbeats 4000000 in
theorem compareFunc_any (a b : List Lb) (ha : a.length ≤ maxLen) (hb : b.length ≤ maxLen) (A C : Option Addr) (c d : Nat) (w : World) (hA : LS w w.heap.size A a) (hC : LS w w.heap.size C b) :
    Calls Try.prog 50 #[.slice A a.length c, .slice C b.length d, .func (.func 51) #[] #[]] w fun e w' => e = .returned (.int .i64 (cmpL a b)) ∧ Below w.heap.size w w' := by
  unfold maxLen at ha hb
  have HA := Lib.hid hA
  have HC := Lib.hid hC
  clear hA hC
  have HS := Lib.hid (CmpAt.start a b)
  go_enter Try.func50, Try.ntmps50
  go_wp2
  go_loopw [13] (fun i wr => ∃ k : Nat, k ≤ a.length ∧ k ≤ b.length ∧ i = .int .i64 k ∧ Hid (CmpAt a b k) ∧ Hid (Below w.heap.size w wr)) (fun i _ => a.length - (intOf i).toNat)
  case atStart => exact ⟨0, by omega, by omega, rfl, HS, Below.refl _ _⟩
  case round =>
    clear HS
    obtain ⟨k, hk, hk2, rfl, H, HB⟩ := hrel
    by_cases hlt : k < a.length
    · obtain ⟨bl, off, rfl, hbl, h1', h2'⟩ := HA.out.at_ hlt
      have h1 := (HB.out.cell (p := ⟨bl, off + k * 2, none⟩) hbl).trans h1'
      have h2 := (HB.out.cell (p := ⟨bl, off + k * 2 + 1, none⟩) hbl).trans h2'
      clear h1' h2'
      have hbw : bl < wr.heap.size := Nat.lt_of_lt_of_le hbl HB.out.size
      by_cases hlt2 : k < b.length
      · obtain ⟨bl2, off2, rfl, hbl2, h3', h4'⟩ := HC.out.at_ hlt2
        have h3 := (HB.out.cell (p := ⟨bl2, off2 + k * 2, none⟩) hbl2).trans h3'
        have h4 := (HB.out.cell (p := ⟨bl2, off2 + k * 2 + 1, none⟩) hbl2).trans h4'
        clear h3' h4'
        have hbw2 : bl2 < wr.heap.size := Nat.lt_of_lt_of_le hbl2 HB.out.size
        have hbw3 : bl2 < wr.heap.size + 1 := by omega
        have B2 : Hid (Below w.heap.size w ((wr.alloc (.cells #[.string a[k].n, .string a[k].v] 29)).alloc (.cells #[.string b[k].n, .string b[k].v] 29))) := (HB.out.alloc HB.out.size _).alloc (by have := HB.out.size; simp; omega) _
        have CC := Lib.hid (cmp1_any a[k] b[k])
        have SZ := Lib.hid HB.out.size
        by_cases hz : cmpX a[k] b[k] = 0
        · have HE := Lib.hid (H.out.next hlt hlt2 hz)
          rw [hz] at CC
          clear H hz
          go_wp2_with ((with_reducible refine (CC.out _).mono ?_); rintro e w1 ⟨rfl, hb1⟩; have HB1 := Lib.hid hb1; clear hb1)
          have B3 := Lib.hid (B2.out.trans (HB1.out.mono (by have := SZ.out; simp; omega)))
          go_roundw
          case rel => exact ⟨k + 1, by omega, by omega, by go_num, HE, B3.out⟩
          case measure => simp [intOf]; omega
        · have HE := Lib.hid (H.out.no hlt hlt2 hz)
          have hzb : (cmpX a[k] b[k] != 0) = true := by simp [hz]
          clear H hz
          generalize cmpX a[k] b[k] = z at *
          go_wp2_with ((with_reducible refine (CC.out _).mono ?_); rintro e w1 ⟨rfl, hb1⟩; have HB1 := Lib.hid hb1; clear hb1)
          have B3 := Lib.hid (B2.out.trans (HB1.out.mono (by have := SZ.out; simp; omega)))
          go_ret
          rw [HE.out]
          exact ⟨rfl, B3.out⟩
      · have HE := Lib.hid (H.out.more (by omega) (by omega))
        clear H
        go_wp2
        go_ret
        rw [HE.out]
        exact ⟨rfl, HB.out.alloc HB.out.size _⟩
    · by_cases hlt2 : k < b.length
      · have HE := Lib.hid (H.out.less (k := k) (by omega) hlt2)
        clear H
        have hba : a.length < b.length := by omega
        go_wp2
        go_ret
        rw [HE.out]
        exact ⟨rfl, HB.out⟩
      · have HE := Lib.hid (H.out.same (k := k) (by omega) (by omega))
        clear H
        have hba : ¬ a.length < b.length := by omega
        go_wp2
        go_ret
        rw [HE.out]
        exact ⟨rfl, HB.out⟩
theorem compare_any (a b : List Lb) (ha : a.length ≤ maxLen) (hb : b.length ≤ maxLen) (A C : Option Addr) (c d : Nat) (w : World) (hA : LS w w.heap.size A a) (hC : LS w w.heap.size C b) :
    Calls Try.prog 31 #[.slice A a.length c, .slice C b.length d] w fun e w' => e = .returned (.int .i64 (cmpL a b)) ∧ Below w.heap.size w w' := by
  have CC := Lib.hid (compareFunc_any a b ha hb A C c d w hA hC)
  clear hA hC
  go_enter Try.func31, Try.ntmps31
  go_wp2_with (go_at_call 50; (with_reducible refine CC.out.mono ?_); rintro e w1 ⟨rfl, hb1⟩; have HB1 := Lib.hid hb1; clear hb1)
  go_ret
  exact ⟨rfl, HB1.out⟩
end Go.Proofs.Ytbphhdmnfepbnaa.Lab
