/- square and Combine of the reference of layer 2: arrays by value. -/
import Derived.Test.YtnkaigmonkmedaaRefB
import Derived.RangeFuncBox
import Derived.BigRegion
import Derived.Deep.RegionLaw
import Derived.Deep.RegionWith
import Derived.Deep.Cut
import Derived.Deep.CutBlock
import Derived.Deep.CutRange
namespace Go.Proofs.Ytnkaigmonkmedaa
open Go.RowKit

/-- Block g is an array of 32 registers. -/
def IsArr (w : World) (g : Nat) (cs : Array Value) : Prop := w.heap[g]? = some (.cells cs 46 (0, 0)) ∧ cs.size = 32 ∧ cs.all (·.oneCell') = true
theorem infoArr : (Try.prog.info? 46).map (·.size) = some 32 := by kernel_rfl
theorem load_arr {w : World} {g : Nat} {cs : Array Value} (h : IsArr w g cs) : (Instr.loadAt 46 (.pointer (some ⟨g, 0, none⟩))).run Try.prog w = .ok (.agg cs) w := by
  simp only [Instr.loadAt, Instr.sureAddr, Sem.run_bind, Sem.run_pure, Result.andThen_ok]
  exact run_loadVar_row w g 46 46 cs (0, 0) _ h.1 Try.underlying46 rfl (by rw [h.2.1]; exact infoArr)
theorem store_arr {w : World} {g : Nat} {cs old : Array Value} (h : IsArr w g old) (hs : cs.size = 32) (h1 : cs.all (·.oneCell') = true) :
    (Instr.storeAt 46 (.pointer (some ⟨g, 0, none⟩)) (.agg cs)).run Try.prog w = .ok () (w.setRow g cs) := by
  simp only [Instr.storeAt, Instr.sureAddr, Sem.run_bind, Sem.run_pure, Result.andThen_ok]
  exact run_storeVar_row w g 46 46 old cs h.1 (by rw [hs]; exact infoArr) (by rw [hs, h.2.1]) h1
/-- The cells of block g. -/
def rowAt (w : World) (g : Nat) : Array Value := match w.heap[g]? with | some (.cells cs _ _) => cs | _ => #[]
/-- Block g is an array of 32 registers, whatever they are. -/
def ArrAt (w : World) (g : Nat) : Prop := ∃ cs, IsArr w g cs
theorem IsArr.row {w : World} {g : Nat} {cs : Array Value} (h : IsArr w g cs) : rowAt w g = cs := by unfold rowAt; rw [h.1]
theorem load_at {w : World} {g : Nat} (h : ArrAt w g) : (Instr.loadAt 46 (.pointer (some ⟨g, 0, none⟩))).run Try.prog w = .ok (.agg (rowAt w g)) w := by
  obtain ⟨cs, h⟩ := h
  rw [h.row]
  exact load_arr h
/-- The block that a pointer leads to. -/
def blockOf : Value → Nat
  | .pointer (some a) => a.block
  | _ => 0
theorem wp_load_arr (dst : Option Tmp) (x : Operand) (ty : TypeId) (pos : String) (after : Array Edge) (guard : Option (Nat × Bool)) (a : Act) (w : World) (K : Act → World → Prop) (Q : Exit → Act → World → Prop)
    (h1 : a.eval x = .pointer (some ⟨blockOf (a.eval x), 0, none⟩)) (h2 : ArrAt w (blockOf (a.eval x))) :
    Oper.wp Try.prog { dst, op := .load 46 x, type := ty, pos, after, guard } a w K Q = K (a.put dst (.agg (rowAt w (blockOf (a.eval x))))) w := by
  have hrun : (execOp a.eval { dst, op := .load 46 x, type := ty, pos, after, guard }).run Try.prog w = .ok (.value (.agg (rowAt w (blockOf (a.eval x))))) w := by
    have h := load_at h2
    rw [← h1] at h
    show ((do pure (.value (← Instr.loadAt 46 (a.eval x))) : Sem Next)).run Try.prog w = _
    simp only [Sem.run_bind, h, Result.andThen_ok, Sem.run_pure]
  unfold Oper.wp
  rw [hrun]
  rfl
attribute [local go_sem ↓] wp_load_arr
attribute [local go_sem] blockOf
theorem rep_one : (Array.replicate 32 (Value.int .u32 0)).all (·.oneCell') = true := by
  rw [Array.all_eq_true_iff_forall_mem]
  intro v hv
  rw [Array.mem_replicate] at hv
  rw [hv.2]; rfl
theorem arr_one (f : Nat → Nat) : (arr f).all (·.oneCell') = true := by
  simp [arr, Value.oneCell']

/-- The array while it is squared: the first k registers are done. -/
def mix (n k : Nat) : Array Value := arr fun i => if i < k then shN (2 * n) (2 ^ i) else shN n (2 ^ i)
theorem mix_zero (n : Nat) : mix n 0 = arr fun i => shN n (2 ^ i) := by simp [mix]
theorem mix_all (n : Nat) : mix n 32 = arr fun i => shN (2 * n) (2 ^ i) := by
  unfold mix arr
  rw [List.map_congr_left]
  intro i hi
  show Value.int .u32 ((if i < 32 then shN (2 * n) (2 ^ i) else shN n (2 ^ i) : Nat) : Int) = _
  rw [if_pos (List.mem_range.1 hi)]
theorem mix_succ (n k : Nat) : (mix n k).setIfInBounds k (.int .u32 (shN (2 * n) (2 ^ k) : Nat)) = mix n (k + 1) := by
  apply Array.ext
  · simp [mix, arr]
  · intro i h1 h2
    have hi : i < 32 := by simpa [mix, arr] using h2
    rw [Array.getElem_setIfInBounds (by simpa [mix, arr] using hi)]
    by_cases e : k = i
    · subst e; simp [mix, arr]
    · rw [if_neg e]
      have e2 : (i < k) = (i < k + 1) := by apply propext; omega
      simp [mix, arr, e2]
def Sq (n : Nat) (w : World) (k : Nat) (wr : World) : Prop :=
  IsArr wr w.heap.size (arr fun i => shN n (2 ^ i)) ∧ IsArr wr (w.heap.size + 1) (Array.replicate 32 (.int .u32 0)) ∧ IsArr wr (w.heap.size + 1 + 1) (mix n k) ∧ Below w.heap.size w wr
theorem isArr_below {w w' : World} {g : Nat} {cs : Array Value} (h : IsArr w g cs) (hb : Below w.heap.size w w') : IsArr w' g cs :=
  ⟨(hb.block g (Array.getElem?_eq_some_iff.1 h.1).1).trans h.1, h.2.1, h.2.2⟩

set_option maxHeartbeats 2000000 in
set_option maxRecDepth 100000 in
/-- square: an operator that shifts, twice. -/
theorem square_any (n : Nat) (w : World) :
    Calls Try.prog 30 #[.agg (arr fun i => shN n (2 ^ i))] w fun e w' => e = .returned (.agg (arr fun i => shN (2 * n) (2 ^ i))) ∧ Below w.heap.size w w' := by
  have hap : ∀ r : Nat, r < 4294967296 → ∀ w, Calls Try.prog 29 #[.agg (arr fun i => shN n (2 ^ i)), .int .u32 r] w fun e w' => e = .returned (.int .u32 (shN n r : Nat)) ∧ Below w.heap.size w w' := fun r hr w => by
    have h := apply_any (shN n) (fun i hi => shN_lt n (Nat.lt_of_lt_of_le (Nat.pow_lt_pow_right (by decide) hi) (by decide))) r hr w
    rw [app_shN n hr] at h
    exact h
  have hm0 := mix_zero n
  have hm32 := mix_all n
  have hSq : ∀ k wr, Sq n w k wr ↔ (IsArr wr w.heap.size (arr fun i => shN n (2 ^ i)) ∧ IsArr wr (w.heap.size + 1) (Array.replicate 32 (.int .u32 0)) ∧ IsArr wr (w.heap.size + 1 + 1) (mix n k) ∧ Below w.heap.size w wr) := fun k wr => Iff.rfl
  have hA1 : (arr fun i => shN n (2 ^ i)).size = 32 := arr_size _
  have hA2 : (arr fun i => shN n (2 ^ i)).all (·.oneCell') = true := arr_one _
  have hAk : ∀ k, k < 32 → (arr fun i => shN n (2 ^ i))[k]? = some (.int .u32 (shN n (2 ^ k) : Nat)) := fun k hk => arr_at _ hk
  rw [← hm32]
  generalize arr (fun i => shN n (2 ^ i)) = A at *
  have HM0 := Lib.hid hm0
  have HAP := Lib.hid hap
  have HSQ := Lib.hid hSq
  have HAK := Lib.hid hAk
  clear hm0 hm32 hap hSq hAk
  have hsA : (Try.prog.info? 46).map (·.size) = some A.size := by rw [hA1]; exact infoArr
  have hz2 : (((w.alloc (.cells A 46)).alloc (.cells (Array.replicate 32 (.int .u32 0)) 46)).alloc (.cells (Array.replicate 32 (.int .u32 0)) 46)).heap[w.heap.size + 1 + 1]? = some (.cells (Array.replicate 32 (.int .u32 0)) 46 (0, 0)) := by
    have h := heap_alloc_new ((w.alloc (.cells A 46)).alloc (.cells (Array.replicate 32 (.int .u32 0)) 46)) (.cells (Array.replicate 32 (.int .u32 0)) 46)
    rw [World.size_alloc, World.size_alloc] at h
    exact h
  have hz1 : (((w.alloc (.cells A 46)).alloc (.cells (Array.replicate 32 (.int .u32 0)) 46)).alloc (.cells (Array.replicate 32 (.int .u32 0)) 46)).heap[w.heap.size + 1]? = some (.cells (Array.replicate 32 (.int .u32 0)) 46 (0, 0)) := by
    rw [heap_alloc_old _ _ (by rw [World.size_alloc, World.size_alloc]; omega)]
    exact heap_alloc2_new w _ _
  have hz0 : (((w.alloc (.cells A 46)).alloc (.cells (Array.replicate 32 (.int .u32 0)) 46)).alloc (.cells (Array.replicate 32 (.int .u32 0)) 46)).heap[w.heap.size]? = some (.cells A 46 (0, 0)) := by
    rw [heap_alloc_old _ _ (by rw [World.size_alloc, World.size_alloc]; omega)]
    exact heap_alloc2_old w _ _
  have hzz : (Array.replicate 32 (Value.int .u32 0)).size = 32 ∧ (Array.replicate 32 (Value.int .u32 0)).all (·.oneCell') = true := ⟨by simp, rep_one⟩
  have hstart : Hid (Sq n w 0 ((((w.alloc (.cells A 46)).alloc (.cells (Array.replicate 32 (.int .u32 0)) 46)).alloc (.cells (Array.replicate 32 (.int .u32 0)) 46)).setRow (w.heap.size + 1 + 1) A)) := by
    refine (HSQ.out 0 _).2 ⟨⟨?_, hA1, hA2⟩, ⟨?_, hzz.1, hzz.2⟩, ⟨?_, by rw [HM0.out]; exact hA1, by rw [HM0.out]; exact hA2⟩, ?_⟩
    · rw [setRow_other _ _ _ _ (by omega)]; exact hz0
    · rw [setRow_other _ _ _ _ (by omega)]; exact hz1
    · rw [HM0.out]; exact setRow_heap _ _ _ _ _ _ hz2
    · have hb := (((Below.refl w.heap.size w).alloc (Nat.le_refl _) (.cells A 46)).alloc (by simp) (.cells (Array.replicate 32 (.int .u32 0)) 46)).alloc (by simp; omega) (.cells (Array.replicate 32 (.int .u32 0)) 46)
      exact ⟨hb.os, hb.tape, hb.output, by rw [size_setRow]; exact hb.size, fun k hk => (setRow_other _ _ _ _ (by omega)).trans (hb.block k hk)⟩
  clear hz1 hz0 hzz
  go_enter Try.func30, Try.ntmps30
  go_wp2_with (first
    | (refine wpList_load_row rfl 46 (.tmp 1) rfl w.heap.size rfl 46 A (0, 0) _ ?h1 Try.underlying46 rfl hsA ?_)
    | (refine wpList_store_row rfl 46 (.tmp 3) (.tmp 5) rfl (w.heap.size + 1 + 1) A rfl rfl 46 (Array.replicate 32 (.int .u32 0)) ?h2 hsA ?h3 hA2 ?_))
  case h1 => exact heap_alloc2_old w _ _
  case h2 => exact hz2
  case h3 => rw [hA1]; simp
  have HZ : Hid (Array.replicate 32 (Value.int .u32 0) = #[.int .u32 0, .int .u32 0, .int .u32 0, .int .u32 0, .int .u32 0, .int .u32 0, .int .u32 0, .int .u32 0, .int .u32 0, .int .u32 0, .int .u32 0, .int .u32 0, .int .u32 0, .int .u32 0, .int .u32 0, .int .u32 0, .int .u32 0, .int .u32 0, .int .u32 0, .int .u32 0, .int .u32 0, .int .u32 0, .int .u32 0, .int .u32 0, .int .u32 0, .int .u32 0, .int .u32 0, .int .u32 0, .int .u32 0, .int .u32 0, .int .u32 0, .int .u32 0]) := rfl
  rw [HZ.out] at hstart
  clear HZ
  generalize (((w.alloc (.cells A 46)).alloc (.cells #[.int .u32 0, .int .u32 0, .int .u32 0, .int .u32 0, .int .u32 0, .int .u32 0, .int .u32 0, .int .u32 0, .int .u32 0, .int .u32 0, .int .u32 0, .int .u32 0, .int .u32 0, .int .u32 0, .int .u32 0, .int .u32 0, .int .u32 0, .int .u32 0, .int .u32 0, .int .u32 0, .int .u32 0, .int .u32 0, .int .u32 0, .int .u32 0, .int .u32 0, .int .u32 0, .int .u32 0, .int .u32 0, .int .u32 0, .int .u32 0, .int .u32 0, .int .u32 0] 46)).alloc (.cells #[.int .u32 0, .int .u32 0, .int .u32 0, .int .u32 0, .int .u32 0, .int .u32 0, .int .u32 0, .int .u32 0, .int .u32 0, .int .u32 0, .int .u32 0, .int .u32 0, .int .u32 0, .int .u32 0, .int .u32 0, .int .u32 0, .int .u32 0, .int .u32 0, .int .u32 0, .int .u32 0, .int .u32 0, .int .u32 0, .int .u32 0, .int .u32 0, .int .u32 0, .int .u32 0, .int .u32 0, .int .u32 0, .int .u32 0, .int .u32 0, .int .u32 0, .int .u32 0] 46)).setRow (w.heap.size + 1 + 1) A = W3 at *
  go_loopw [4] (fun vi wr => ∃ k : Nat, k ≤ 32 ∧ vi = .int .i64 k ∧ Sq n w k wr) (fun vi _ => 32 - (intOf vi).toNat)
  case atStart => exact ⟨0, by omega, rfl, hstart⟩
  case round =>
    obtain ⟨k, hk, rfl, hsq⟩ := hrel
    have HS := Lib.hid hsq
    clear hsq
    by_cases hlt : k < 32
    · have hi := (HSQ.out k wr).1 HS.out
      have hiA := hi.1
      have hcA : wr.cell? ⟨w.heap.size, k, none⟩ = some (.int .u32 (shN n (2 ^ k) : Nat)) := by
        rw [cell_of_row wr w.heap.size k A 46 (0, 0) hiA.1]; exact HAK.out k hlt
      have hlt2 : 2 ^ k < 4294967296 := Nat.lt_of_lt_of_le (Nat.pow_lt_pow_right (by decide) hlt) (by decide)
      have hr := shN_lt n hlt2
      have HCALL := Lib.hid (HAP.out (shN n (2 ^ k)) hr)
      have hik : (k : Int) < 32 := by omega
      have HI := Lib.hid hi
      have hmk : k < (mix n k).size := by rw [hi.2.2.1.2.1]; exact hlt
      have HC2 : ∀ w2, Below wr.drew.heap.size wr.drew w2 → w2.cell? ⟨w.heap.size + 1 + 1, k, none⟩ = some ((mix n k)[k]) := fun w2 hb2 => by
        rw [cell_of_row w2 _ k (mix n k) 46 (0, 0) (isArr_below (w := wr.drew) HI.out.2.2.1 hb2).1, Array.getElem?_eq_getElem hmk]
      have HF2 : ∀ w2, Below wr.drew.heap.size wr.drew w2 → w2.frozen? ⟨w.heap.size + 1 + 1, k, none⟩ = false := fun w2 hb2 =>
        frozen_of_row w2 _ k (mix n k) 46 (isArr_below (w := wr.drew) HI.out.2.2.1 hb2).1
      have HSTEP : Hid (∀ w2, Below wr.drew.heap.size wr.drew w2 → Sq n w (k + 1) (w2.setCell ⟨w.heap.size + 1 + 1, k, none⟩ (.int .u32 (shN n (shN n (2 ^ k)) : Nat)))) := by
        intro w2 hb2
        have e : shN n (shN n (2 ^ k)) = shN (2 * n) (2 ^ k) := by rw [← shN_add, show n + n = 2 * n by omega]
        have i1 := isArr_below (w := wr.drew) HI.out.1 hb2
        have i2 := isArr_below (w := wr.drew) HI.out.2.1 hb2
        have i3 := isArr_below (w := wr.drew) HI.out.2.2.1 hb2
        have hbel := HI.out.2.2.2.drew.trans (hb2.mono HI.out.2.2.2.size)
        refine (HSQ.out (k + 1) _).2 ⟨⟨?_, i1.2.1, i1.2.2⟩, ⟨?_, i2.2.1, i2.2.2⟩, ⟨?_, ?_, ?_⟩, hbel.setCell (by simp; omega) _⟩
        · rw [heap_setCell_other _ _ _ _ (by simp; omega)]; exact i1.1
        · rw [heap_setCell_other _ _ _ _ (by simp)]; exact i2.1
        · rw [heap_setCell_same w2 _ k (mix n k) 46 _ i3.1, e, mix_succ n k]
        · rw [← mix_succ n k, Array.size_setIfInBounds]; exact i3.2.1
        · exact arr_one _
      clear hi
      have hiD : ArrAt wr.drew w.heap.size := ⟨A, hiA⟩
      have hrD : rowAt wr.drew w.heap.size = A := IsArr.row (w := wr.drew) hiA
      have hcD : wr.drew.cell? ⟨w.heap.size, k, none⟩ = some (.int .u32 (shN n (2 ^ k) : Nat)) := hcA
      go_upto_block 1 with (fail)
      go_cut [] from 10 to 16 (fun wx => Sq n w (k + 1) wx)
      case first =>
        go_wp2
        go_region_law (go_simp; go_at_call 29; refine (HCALL.out _).mono ?_; rintro e w2 ⟨rfl, hb2⟩; have hc2 := HC2 w2 hb2; have hf2 := HF2 w2 hb2)
        all_goals go_wp2
        all_goals go_meet
        all_goals exact HSTEP.out w2 hb2
      case rest =>
        go_wp2
        go_roundw
        case rel => exact ⟨k + 1, by omega, by go_num, hcut⟩
        case measure => simp [intOf]; omega
    · obtain rfl : k = 32 := by omega
      have hi := (HSQ.out 32 wr).1 HS.out
      have hg2 := hi.2.1.1
      have hg3 := hi.2.2.1.1
      have hm1 := hi.2.2.1.2.1
      have hm2 := hi.2.2.1.2.2
      have HB := Lib.hid hi.2.2.2
      have hsB : (Try.prog.info? 46).map (·.size) = some (mix n 32).size := by rw [hm1]; exact infoArr
      have hz32 : (Array.replicate 32 (Value.int .u32 0)).size = (mix n 32).size := by rw [hm1]; simp
      clear hi
      generalize hZ : mix n 32 = Z at *
      have HZ := Lib.hid hZ
      clear hZ
      go_wp2_with (first
        | (refine wpList_load_row rfl 46 (.tmp 3) rfl (w.heap.size + 1 + 1) rfl 46 Z (0, 0) _ hg3 Try.underlying46 rfl hsB ?_)
        | (refine wpList_store_row rfl 46 (.tmp 2) (.tmp 17) rfl (w.heap.size + 1) Z rfl rfl 46 (Array.replicate 32 (.int .u32 0)) hg2 hsB hz32 hm2 ?_))
      have hg4 := setRow_heap wr (w.heap.size + 1) _ Z 46 (0, 0) hg2
      refine bodyPost_ret (v := .agg Z) (results_cell_row rfl _ _ (w.heap.size + 1) 46 Z (0, 0) _ rfl hg4 Try.underlying46 rfl hsB) rfl ⟨by rw [HZ.out], ?_⟩
      have hb := HB.out
      exact ⟨hb.os, hb.tape, hb.output, by rw [size_setRow]; exact hb.size, fun k hk => (setRow_other _ _ _ _ (by omega)).trans (hb.block k hk)⟩
end Go.Proofs.Ytnkaigmonkmedaa
