/- oneByte of the program of layer 2. -/
import Derived.Test.YtnkaigmonkmedaaProC
namespace Go.Proofs.Ytnkaigmonkmedaa
open Go.RowKit

/-- Block g is an array of 32 registers, of the program's own type. -/
def IsShf (w : World) (g : Nat) (cs : Array Value) : Prop := w.heap[g]? = some (.cells cs 51 (0, 0)) ∧ cs.size = 32 ∧ cs.all (·.oneCell') = true
theorem isShf_below {w w' : World} {g : Nat} {cs : Array Value} (h : IsShf w g cs) (hb : Below w.heap.size w w') : IsShf w' g cs :=
  ⟨(hb.block g (Array.getElem?_eq_some_iff.1 h.1).1).trans h.1, h.2.1, h.2.2⟩

/-- The array while it is filled: the first k registers are done. -/
def fil (n k : Nat) : Array Value := arr fun i => if i < k then shN n (2 ^ i) else 0
theorem fil_zero (n : Nat) : fil n 0 = Array.replicate 32 (.int .u32 0) := by
  simp [fil, arr]; rfl
theorem fil_all (n : Nat) : fil n 32 = arr fun i => shN n (2 ^ i) := by
  unfold fil arr
  rw [List.map_congr_left]
  intro i hi
  show Value.int .u32 ((if i < 32 then shN n (2 ^ i) else 0 : Nat) : Int) = _
  rw [if_pos (List.mem_range.1 hi)]
theorem fil_succ (n k : Nat) : (fil n k).setIfInBounds k (.int .u32 (shN n (2 ^ k) : Nat)) = fil n (k + 1) := by
  apply Array.ext
  · simp [fil, arr]
  · intro i h1 h2
    have hi : i < 32 := by simpa [fil, arr] using h2
    rw [Array.getElem_setIfInBounds (by simpa [fil, arr] using hi)]
    by_cases e : k = i
    · subst e; simp [fil, arr]
    · rw [if_neg e]
      have e2 : (i < k) = (i < k + 1) := by apply propext; omega
      simp [fil, arr, e2]
def Ob (w : World) (k : Nat) (wr : World) : Prop :=
  IsShf wr w.heap.size (Array.replicate 32 (.int .u32 0)) ∧ IsShf wr (w.heap.size + 1) (fil 8 k) ∧ Below w.heap.size w wr

set_option maxHeartbeats 2000000 in
set_option maxRecDepth 100000 in
theorem oneByte_any (w : World) :
    Calls Try.prog 32 #[] w fun e w' => e = .returned (.agg (arr fun i => shN 8 (2 ^ i))) ∧ Below w.heap.size w w' := by
  have hOb : ∀ k wr, Ob w k wr ↔ (IsShf wr w.heap.size (Array.replicate 32 (.int .u32 0)) ∧ IsShf wr (w.heap.size + 1) (fil 8 k) ∧ Below w.heap.size w wr) := fun k wr => Iff.rfl
  have hm32 := fil_all 8
  have hm0 := fil_zero 8
  rw [← hm32]
  have HOB := Lib.hid hOb
  clear hm32 hOb
  have hzz : (Array.replicate 32 (Value.int .u32 0)).size = 32 ∧ (Array.replicate 32 (Value.int .u32 0)).all (·.oneCell') = true := ⟨by simp, rep_one⟩
  have hstart : Hid (Ob w 0 ((w.alloc (.cells (Array.replicate 32 (.int .u32 0)) 51)).alloc (.cells (Array.replicate 32 (.int .u32 0)) 51))) := by
    refine (HOB.out 0 _).2 ⟨⟨heap_alloc2_old w _ _, hzz.1, hzz.2⟩, ⟨?_, by rw [hm0]; exact hzz.1, by rw [hm0]; exact hzz.2⟩, ?_⟩
    · rw [hm0]; exact heap_alloc2_new w _ _
    · exact ((Below.refl w.heap.size w).alloc (Nat.le_refl _) _).alloc (by simp) _
  clear hm0 hzz
  go_enter Try.func32, Try.ntmps32
  go_wp2
  have HZ : Hid (Array.replicate 32 (Value.int .u32 0) = #[.int .u32 0, .int .u32 0, .int .u32 0, .int .u32 0, .int .u32 0, .int .u32 0, .int .u32 0, .int .u32 0, .int .u32 0, .int .u32 0, .int .u32 0, .int .u32 0, .int .u32 0, .int .u32 0, .int .u32 0, .int .u32 0, .int .u32 0, .int .u32 0, .int .u32 0, .int .u32 0, .int .u32 0, .int .u32 0, .int .u32 0, .int .u32 0, .int .u32 0, .int .u32 0, .int .u32 0, .int .u32 0, .int .u32 0, .int .u32 0, .int .u32 0, .int .u32 0]) := rfl
  rw [HZ.out] at hstart
  clear HZ
  generalize (w.alloc (.cells #[.int .u32 0, .int .u32 0, .int .u32 0, .int .u32 0, .int .u32 0, .int .u32 0, .int .u32 0, .int .u32 0, .int .u32 0, .int .u32 0, .int .u32 0, .int .u32 0, .int .u32 0, .int .u32 0, .int .u32 0, .int .u32 0, .int .u32 0, .int .u32 0, .int .u32 0, .int .u32 0, .int .u32 0, .int .u32 0, .int .u32 0, .int .u32 0, .int .u32 0, .int .u32 0, .int .u32 0, .int .u32 0, .int .u32 0, .int .u32 0, .int .u32 0, .int .u32 0] 51)).alloc (.cells #[.int .u32 0, .int .u32 0, .int .u32 0, .int .u32 0, .int .u32 0, .int .u32 0, .int .u32 0, .int .u32 0, .int .u32 0, .int .u32 0, .int .u32 0, .int .u32 0, .int .u32 0, .int .u32 0, .int .u32 0, .int .u32 0, .int .u32 0, .int .u32 0, .int .u32 0, .int .u32 0, .int .u32 0, .int .u32 0, .int .u32 0, .int .u32 0, .int .u32 0, .int .u32 0, .int .u32 0, .int .u32 0, .int .u32 0, .int .u32 0, .int .u32 0, .int .u32 0] 51) = W3 at *
  go_loopw [3] (fun vi wr => ∃ k : Nat, k ≤ 32 ∧ vi = .int .i64 k ∧ Ob w k wr) (fun vi _ => 32 - (intOf vi).toNat)
  case atStart => exact ⟨0, by omega, rfl, hstart⟩
  case round =>
    obtain ⟨k, hk, rfl, hsq⟩ := hrel
    have HS := Lib.hid hsq
    clear hsq
    by_cases hlt : k < 32
    · have hi := (HOB.out k wr).1 HS.out
      have hlt2 : 2 ^ k < 4294967296 := Nat.lt_of_lt_of_le (Nat.pow_lt_pow_right (by decide) hlt) (by decide)
      have hik : (k : Int) < 32 := by omega
      have HCALL : Hid (∀ w, Calls Try.prog 31 #[.int .u32 ((2 : Int) ^ k % 4294967296)] w fun e w' => e = .returned (.int .u32 (shN 8 (2 ^ k) : Nat)) ∧ w = w') := fun w => by
        have hp : ((2 : Int) ^ k % 4294967296) = ((2 ^ k : Nat) : Int) := by
          have h : ((2 : Int) ^ k) = ((2 ^ k : Nat) : Int) := by simp
          rw [h]
          generalize 2 ^ k = p at *
          omega
        rw [hp]
        exact shiftByte_any (2 ^ k) w hlt2
      have hmk : k < (fil 8 k).size := by rw [hi.2.1.2.1]; exact hlt
      have hc : wr.cell? ⟨w.heap.size + 1, k, none⟩ = some ((fil 8 k)[k]) := by
        rw [cell_of_row wr _ k (fil 8 k) 51 (0, 0) hi.2.1.1, Array.getElem?_eq_getElem hmk]
      have hf : wr.frozen? ⟨w.heap.size + 1, k, none⟩ = false := frozen_of_row wr _ k (fil 8 k) 51 hi.2.1.1
      have HSTEP : Hid (Ob w (k + 1) (wr.setCell ⟨w.heap.size + 1, k, none⟩ (.int .u32 (shN 8 (2 ^ k) : Nat)))) := by
        refine (HOB.out (k + 1) _).2 ⟨⟨?_, hi.1.2.1, hi.1.2.2⟩, ⟨?_, ?_, ?_⟩, hi.2.2.setCell (by simp) _⟩
        · rw [heap_setCell_other _ _ _ _ (by simp)]; exact hi.1.1
        · rw [heap_setCell_same wr _ k (fil 8 k) 51 _ hi.2.1.1, fil_succ 8 k]
        · rw [← fil_succ 8 k, Array.size_setIfInBounds]; exact hi.2.1.2.1
        · exact arr_one _
      generalize shN 8 (2 ^ k) = z at *
      clear hi
      go_wp2_with fail
      refine (HCALL.out _).mono ?_
      rintro e w' ⟨rfl, rfl⟩
      go_wp2
      go_roundw
      case rel => exact ⟨k + 1, by omega, by go_num, HSTEP.out⟩
      case measure => simp [intOf]; omega
    · obtain rfl : k = 32 := by omega
      have hi := (HOB.out 32 wr).1 HS.out
      have hg1 := hi.1.1
      have hg2 := hi.2.1.1
      have hm1 := hi.2.1.2.1
      have hm2 := hi.2.1.2.2
      have HB := Lib.hid hi.2.2
      have hs51 : (Try.prog.info? 51).map (·.size) = some (fil 8 32).size := by rw [hm1]; exact info51
      have hz32 : (Array.replicate 32 (Value.int .u32 0)).size = (fil 8 32).size := by rw [hm1]; simp
      clear hi
      generalize hZ : fil 8 32 = Z at *
      have HZ := Lib.hid hZ
      clear hZ
      go_wp2_with (first
        | (refine wpList_load_row rfl 51 (.tmp 1) rfl (w.heap.size + 1) rfl 51 Z (0, 0) _ hg2 Try.underlying51 rfl hs51 ?_)
        | (refine wpList_store_row rfl 51 (.tmp 0) (.tmp 12) rfl w.heap.size Z rfl rfl 51 (Array.replicate 32 (.int .u32 0)) hg1 hs51 hz32 hm2 ?_))
      have hg4 := setRow_heap wr w.heap.size _ Z 51 (0, 0) hg1
      refine bodyPost_ret (v := .agg Z) (results_cell_row rfl _ _ w.heap.size 51 Z (0, 0) _ rfl hg4 Try.underlying51 rfl hs51) rfl ⟨by rw [HZ.out], ?_⟩
      have hb := HB.out
      exact ⟨hb.os, hb.tape, hb.output, by rw [size_setRow]; exact hb.size, fun k hk => (setRow_other _ _ _ _ (by omega)).trans (hb.block k hk)⟩
end Go.Proofs.Ytnkaigmonkmedaa
