/- squared of the program of layer 2. -/
import Derived.Test.YtnkaigmonkmedaaProD
namespace Go.Proofs.Ytnkaigmonkmedaa
open Go.RowKit

def Sd (n : Nat) (w : World) (k : Nat) (wr : World) : Prop :=
  IsShf wr w.heap.size (arr fun i => shN n (2 ^ i)) ∧ IsShf wr (w.heap.size + 1) (Array.replicate 32 (.int .u32 0)) ∧ IsShf wr (w.heap.size + 1 + 1) (fil (2 * n) k) ∧ Below w.heap.size w wr

set_option maxHeartbeats 2000000 in
set_option maxRecDepth 100000 in
/-- squared: an operator that shifts, twice. -/
theorem squared_any (n : Nat) (w : World) :
    Calls Try.prog 33 #[.agg (arr fun i => shN n (2 ^ i))] w fun e w' => e = .returned (.agg (arr fun i => shN (2 * n) (2 ^ i))) ∧ Below w.heap.size w w' := by
  have hap : ∀ r : Nat, r < 4294967296 → ∀ w, Calls Try.prog 34 #[.agg (arr fun i => shN n (2 ^ i)), .int .u32 r] w fun e w' => e = .returned (.int .u32 (shN n r : Nat)) ∧ Below w.heap.size w w' := fun r hr w => by
    have h := papply_any (shN n) (fun i hi => shN_lt n (Nat.lt_of_lt_of_le (Nat.pow_lt_pow_right (by decide) hi) (by decide))) r hr w
    rw [app_shN n hr] at h
    exact h
  have hix : ∀ k : Nat, k < 32 → ∀ w, (Instr.index 51 (.agg (arr fun i => shN n (2 ^ i))) (.int .i64 k)).run Try.prog w = .ok (.int .u32 (shN n (2 ^ k) : Nat)) w := fun k hk w =>
    idx_arr _ k _ hk (arr_at _ hk) w
  have hSd : ∀ k wr, Sd n w k wr ↔ (IsShf wr w.heap.size (arr fun i => shN n (2 ^ i)) ∧ IsShf wr (w.heap.size + 1) (Array.replicate 32 (.int .u32 0)) ∧ IsShf wr (w.heap.size + 1 + 1) (fil (2 * n) k) ∧ Below w.heap.size w wr) := fun k wr => Iff.rfl
  have hm32 := fil_all (2 * n)
  have hm0 := fil_zero (2 * n)
  have hA1 : (arr fun i => shN n (2 ^ i)).size = 32 := arr_size _
  have hA2 : (arr fun i => shN n (2 ^ i)).all (·.oneCell') = true := arr_one _
  rw [← hm32]
  generalize arr (fun i => shN n (2 ^ i)) = A at *
  have HAP := Lib.hid hap
  have HSD := Lib.hid hSd
  have HIX := Lib.hid hix
  clear hm32 hap hSd hix
  have hsA : (Try.prog.info? 51).map (·.size) = some A.size := by rw [hA1]; exact info51
  have hz2 : (((w.alloc (.cells A 51)).alloc (.cells (Array.replicate 32 (.int .u32 0)) 51)).alloc (.cells (Array.replicate 32 (.int .u32 0)) 51)).heap[w.heap.size + 1 + 1]? = some (.cells (Array.replicate 32 (.int .u32 0)) 51 (0, 0)) := by
    have h := heap_alloc_new ((w.alloc (.cells A 51)).alloc (.cells (Array.replicate 32 (.int .u32 0)) 51)) (.cells (Array.replicate 32 (.int .u32 0)) 51)
    rw [World.size_alloc, World.size_alloc] at h
    exact h
  have hz1 : (((w.alloc (.cells A 51)).alloc (.cells (Array.replicate 32 (.int .u32 0)) 51)).alloc (.cells (Array.replicate 32 (.int .u32 0)) 51)).heap[w.heap.size + 1]? = some (.cells (Array.replicate 32 (.int .u32 0)) 51 (0, 0)) := by
    rw [heap_alloc_old _ _ (by rw [World.size_alloc, World.size_alloc]; omega)]
    exact heap_alloc2_new w _ _
  have hz0 : (((w.alloc (.cells A 51)).alloc (.cells (Array.replicate 32 (.int .u32 0)) 51)).alloc (.cells (Array.replicate 32 (.int .u32 0)) 51)).heap[w.heap.size]? = some (.cells A 51 (0, 0)) := by
    rw [heap_alloc_old _ _ (by rw [World.size_alloc, World.size_alloc]; omega)]
    exact heap_alloc2_old w _ _
  have hzz : (Array.replicate 32 (Value.int .u32 0)).size = 32 ∧ (Array.replicate 32 (Value.int .u32 0)).all (·.oneCell') = true := ⟨by simp, rep_one⟩
  have hstart : Hid (Sd n w 0 (((w.alloc (.cells A 51)).alloc (.cells (Array.replicate 32 (.int .u32 0)) 51)).alloc (.cells (Array.replicate 32 (.int .u32 0)) 51))) := by
    refine (HSD.out 0 _).2 ⟨⟨hz0, hA1, hA2⟩, ⟨hz1, hzz.1, hzz.2⟩, ⟨?_, by rw [hm0]; exact hzz.1, by rw [hm0]; exact hzz.2⟩, ?_⟩
    · rw [hm0]; exact hz2
    · exact (((Below.refl w.heap.size w).alloc (Nat.le_refl _) (.cells A 51)).alloc (by simp) (.cells (Array.replicate 32 (.int .u32 0)) 51)).alloc (by simp; omega) (.cells (Array.replicate 32 (.int .u32 0)) 51)
  have HZ0 := Lib.hid hz0
  clear hz1 hz2 hzz hm0 hz0
  go_enter Try.func33, Try.ntmps33
  have HZ : Hid (Array.replicate 32 (Value.int .u32 0) = #[.int .u32 0, .int .u32 0, .int .u32 0, .int .u32 0, .int .u32 0, .int .u32 0, .int .u32 0, .int .u32 0, .int .u32 0, .int .u32 0, .int .u32 0, .int .u32 0, .int .u32 0, .int .u32 0, .int .u32 0, .int .u32 0, .int .u32 0, .int .u32 0, .int .u32 0, .int .u32 0, .int .u32 0, .int .u32 0, .int .u32 0, .int .u32 0, .int .u32 0, .int .u32 0, .int .u32 0, .int .u32 0, .int .u32 0, .int .u32 0, .int .u32 0, .int .u32 0]) := rfl
  rw [HZ.out] at hstart HZ0
  go_wp2_with (refine wpList_load_row rfl 51 (.tmp 1) rfl w.heap.size rfl 51 A (0, 0) _ ?h1 Try.underlying51 rfl hsA ?_)
  case h1 => exact HZ0.out
  clear HZ HZ0
  generalize ((w.alloc (.cells A 51)).alloc (.cells #[.int .u32 0, .int .u32 0, .int .u32 0, .int .u32 0, .int .u32 0, .int .u32 0, .int .u32 0, .int .u32 0, .int .u32 0, .int .u32 0, .int .u32 0, .int .u32 0, .int .u32 0, .int .u32 0, .int .u32 0, .int .u32 0, .int .u32 0, .int .u32 0, .int .u32 0, .int .u32 0, .int .u32 0, .int .u32 0, .int .u32 0, .int .u32 0, .int .u32 0, .int .u32 0, .int .u32 0, .int .u32 0, .int .u32 0, .int .u32 0, .int .u32 0, .int .u32 0] 51)).alloc (.cells #[.int .u32 0, .int .u32 0, .int .u32 0, .int .u32 0, .int .u32 0, .int .u32 0, .int .u32 0, .int .u32 0, .int .u32 0, .int .u32 0, .int .u32 0, .int .u32 0, .int .u32 0, .int .u32 0, .int .u32 0, .int .u32 0, .int .u32 0, .int .u32 0, .int .u32 0, .int .u32 0, .int .u32 0, .int .u32 0, .int .u32 0, .int .u32 0, .int .u32 0, .int .u32 0, .int .u32 0, .int .u32 0, .int .u32 0, .int .u32 0, .int .u32 0, .int .u32 0] 51) = W3 at *
  go_loopw [7] (fun vi wr => ∃ k : Nat, k ≤ 32 ∧ vi = .int .i64 k ∧ Sd n w k wr) (fun vi _ => 32 - (intOf vi).toNat)
  case atStart => exact ⟨0, by omega, rfl, hstart⟩
  case round =>
    obtain ⟨k, hk, rfl, hsq⟩ := hrel
    have HS := Lib.hid hsq
    clear hsq
    by_cases hlt : k < 32
    · have hi := (HSD.out k wr).1 HS.out
      have hiA := hi.1.1
      have hix := HIX.out k hlt
      have hlt2 : 2 ^ k < 4294967296 := Nat.lt_of_lt_of_le (Nat.pow_lt_pow_right (by decide) hlt) (by decide)
      have hr := shN_lt n hlt2
      have HCALL := Lib.hid (HAP.out (shN n (2 ^ k)) hr)
      have hik : (k : Int) < 32 := by omega
      have HI := Lib.hid hi
      have hmk : k < (fil (2 * n) k).size := by rw [hi.2.2.1.2.1]; exact hlt
      have HC2 : ∀ w2, Below wr.heap.size wr w2 → w2.cell? ⟨w.heap.size + 1 + 1, k, none⟩ = some ((fil (2 * n) k)[k]) := fun w2 hb2 => by
        rw [cell_of_row w2 _ k (fil (2 * n) k) 51 (0, 0) (isShf_below HI.out.2.2.1 hb2).1, Array.getElem?_eq_getElem hmk]
      have HF2 : ∀ w2, Below wr.heap.size wr w2 → w2.frozen? ⟨w.heap.size + 1 + 1, k, none⟩ = false := fun w2 hb2 =>
        frozen_of_row w2 _ k (fil (2 * n) k) 51 (isShf_below HI.out.2.2.1 hb2).1
      have HSTEP : Hid (∀ w2, Below wr.heap.size wr w2 → Sd n w (k + 1) (w2.setCell ⟨w.heap.size + 1 + 1, k, none⟩ (.int .u32 (shN n (shN n (2 ^ k)) : Nat)))) := by
        intro w2 hb2
        have e : shN n (shN n (2 ^ k)) = shN (2 * n) (2 ^ k) := by rw [← shN_add, show n + n = 2 * n by omega]
        have i1 := isShf_below HI.out.1 hb2
        have i2 := isShf_below HI.out.2.1 hb2
        have i3 := isShf_below HI.out.2.2.1 hb2
        have hbel := HI.out.2.2.2.trans (hb2.mono HI.out.2.2.2.size)
        refine (HSD.out (k + 1) _).2 ⟨⟨?_, i1.2.1, i1.2.2⟩, ⟨?_, i2.2.1, i2.2.2⟩, ⟨?_, ?_, ?_⟩, hbel.setCell (by simp; omega) _⟩
        · rw [heap_setCell_other _ _ _ _ (by simp; omega)]; exact i1.1
        · rw [heap_setCell_other _ _ _ _ (by simp)]; exact i2.1
        · rw [heap_setCell_same w2 _ k (fil (2 * n) k) 51 _ i3.1, e, fil_succ (2 * n) k]
        · rw [← fil_succ (2 * n) k, Array.size_setIfInBounds]; exact i3.2.1
        · exact arr_one _
      clear hi
      go_wp2_with (refine wpList_load_row rfl 51 (.tmp 1) rfl w.heap.size rfl 51 A (0, 0) _ hiA Try.underlying51 rfl hsA ?_)
      refine (HCALL.out _).mono ?_
      rintro e w2 ⟨rfl, hb2⟩
      have hc2 := HC2 w2 hb2
      have hf2 := HF2 w2 hb2
      have HB2 := Lib.hid hb2
      clear hb2
      go_wp2
      go_roundw
      case rel => exact ⟨k + 1, by omega, by go_num, HSTEP.out w2 HB2.out⟩
      case measure => simp [intOf]; omega
    · obtain rfl : k = 32 := by omega
      have hi := (HSD.out 32 wr).1 HS.out
      have hg1 := hi.2.1.1
      have hg2 := hi.2.2.1.1
      have hm1 := hi.2.2.1.2.1
      have hm2 := hi.2.2.1.2.2
      have HB := Lib.hid hi.2.2.2
      have hs51 : (Try.prog.info? 51).map (·.size) = some (fil (2 * n) 32).size := by rw [hm1]; exact info51
      have hz32 : (Array.replicate 32 (Value.int .u32 0)).size = (fil (2 * n) 32).size := by rw [hm1]; simp
      clear hi
      generalize hZ : fil (2 * n) 32 = Z at *
      have HZ := Lib.hid hZ
      clear hZ
      go_wp2_with (first
        | (refine wpList_load_row rfl 51 (.tmp 3) rfl (w.heap.size + 1 + 1) rfl 51 Z (0, 0) _ hg2 Try.underlying51 rfl hs51 ?_)
        | (refine wpList_store_row rfl 51 (.tmp 2) (.tmp 17) rfl (w.heap.size + 1) Z rfl rfl 51 (Array.replicate 32 (.int .u32 0)) hg1 hs51 hz32 hm2 ?_))
      have hg4 := setRow_heap wr (w.heap.size + 1) _ Z 51 (0, 0) hg1
      refine bodyPost_ret (v := .agg Z) (results_cell_row rfl _ _ (w.heap.size + 1) 51 Z (0, 0) _ rfl hg4 Try.underlying51 rfl hs51) rfl ⟨by rw [HZ.out], ?_⟩
      have hb := HB.out
      exact ⟨hb.os, hb.tape, hb.output, by rw [size_setRow]; exact hb.size, fun k hk => (setRow_other _ _ _ _ (by omega)).trans (hb.block k hk)⟩
end Go.Proofs.Ytnkaigmonkmedaa
