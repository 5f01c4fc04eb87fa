/- shift and Combine of the program of layer 2. -/
import Derived.Test.YtnkaigmonkmedaaProE
namespace Go.Proofs.Ytnkaigmonkmedaa
open Go.RowKit

theorem shift_odd {m q r : Nat} (h : q % 2 = 1) : shN (m * q) r = shN (2 * m * (q / 2)) (shN m r) := by
  rw [← shN_add]
  congr 1
  have e : q = 2 * (q / 2) + 1 := by omega
  calc m * q = m * (2 * (q / 2) + 1) := by rw [← e]
    _ = m * (2 * (q / 2)) + m := by rw [Nat.mul_add, Nat.mul_one]
    _ = m + 2 * m * (q / 2) := by rw [Nat.add_comm, ← Nat.mul_assoc, Nat.mul_comm m 2]
theorem shift_even {m q r : Nat} (h : ¬ q % 2 = 1) : shN (m * q) r = shN (2 * m * (q / 2)) r := by
  have e : q = 2 * (q / 2) := by omega
  congr 1
  calc m * q = m * (2 * (q / 2)) := by rw [← e]
    _ = 2 * m * (q / 2) := by rw [← Nat.mul_assoc, Nat.mul_comm m 2]
theorem shf_new (wx : World) (Z B : Array Value) : ((wx.alloc (.cells Z 51)).setRow wx.heap.size B).heap[wx.heap.size]? = some (.cells B 51 (0, 0)) :=
  setRow_heap _ _ _ _ _ _ (heap_alloc_new wx _)
theorem below_setRow {B g : Nat} {w w' : World} (hb : Below B w w') (hg : B ≤ g) (cs : Array Value) : Below B w (w'.setRow g cs) :=
  ⟨hb.os, hb.tape, hb.output, by rw [size_setRow]; exact hb.size, fun k hk => (setRow_other _ _ _ _ (by omega)).trans (hb.block k hk)⟩

/-- The array of the images under n shifts. -/
def shA (n : Nat) : Array Value := arr fun i => shN n (2 ^ i)
theorem shA_size (n : Nat) : (shA n).size = 32 := arr_size _
theorem shA_one (n : Nat) : (shA n).all (·.oneCell') = true := arr_one _
theorem shA_info (n : Nat) : (Try.prog.info? 51).map (·.size) = some (shA n).size := by rw [shA_size]; exact info51

/-- What holds ahead of each round. -/
def Sf (r n : Nat) (w : World) (acc q g : Nat) (wr : World) : Prop :=
  ∃ m, acc < 4294967296 ∧ w.heap.size ≤ g ∧ IsShf wr g (shA m) ∧ shN (8 * n) r = shN (m * q) acc ∧ Below w.heap.size w wr

set_option maxHeartbeats 2000000 in
set_option maxRecDepth 100000 in
theorem pshift_any (r n : Nat) (hr : r < 4294967296) (hn : n < 9223372036854775808) (w : World) :
    Calls Try.prog 27 #[.int .u32 r, .int .i64 n] w fun e w' => e = .returned (.int .u32 (shN (8 * n) r : Nat)) ∧ Below w.heap.size w w' := by
  have hob : Calls Try.prog 32 #[] w fun e w' => e = .returned (.agg (shA 8)) ∧ Below w.heap.size w w' := oneByte_any w
  have hsq : ∀ m w, Calls Try.prog 33 #[.agg (shA m)] w fun e w' => e = .returned (.agg (shA (2 * m))) ∧ Below w.heap.size w w' := fun m w => squared_any m w
  have hap : ∀ (m x : Nat), x < 4294967296 → ∀ w, Calls Try.prog 34 #[.agg (shA m), .int .u32 x] w fun e w' => e = .returned (.int .u32 (shN m x : Nat)) ∧ Below w.heap.size w w' := fun m x hx w => by
    have h := papply_any (shN m) (fun i hi => shN_lt m (Nat.lt_of_lt_of_le (Nat.pow_lt_pow_right (by decide) hi) (by decide))) x hx w
    rw [app_shN m hx] at h
    exact h
  have HOB := Lib.hid hob
  have HSQ := Lib.hid hsq
  have HAP := Lib.hid hap
  clear hob hsq hap
  have hs8 := shA_info 8
  have ho8 := shA_one 8
  have hz8 : (Array.replicate 32 (Value.int .u32 0)).size = (shA 8).size := by rw [shA_size]; simp
  have HS0 : Hid (∀ w1 Z, Below w.heap.size w w1 → Sf r n w r n w1.heap.size ((w1.alloc (.cells Z 51)).setRow w1.heap.size (shA 8))) := by
    intro w1 Z hb
    exact ⟨8, hr, hb.size, ⟨shf_new w1 Z (shA 8), shA_size 8, shA_one 8⟩, rfl, below_setRow (hb.alloc hb.size _) hb.size _⟩
  go_enter Try.func27, Try.ntmps27
  go_wp2_with fail
  refine HOB.out.mono ?_
  rintro e w1 ⟨rfl, hb⟩
  have HZ : Hid (Array.replicate 32 (Value.int .u32 0) = #[.int .u32 0, .int .u32 0, .int .u32 0, .int .u32 0, .int .u32 0, .int .u32 0, .int .u32 0, .int .u32 0, .int .u32 0, .int .u32 0, .int .u32 0, .int .u32 0, .int .u32 0, .int .u32 0, .int .u32 0, .int .u32 0, .int .u32 0, .int .u32 0, .int .u32 0, .int .u32 0, .int .u32 0, .int .u32 0, .int .u32 0, .int .u32 0, .int .u32 0, .int .u32 0, .int .u32 0, .int .u32 0, .int .u32 0, .int .u32 0, .int .u32 0, .int .u32 0]) := rfl
  have HS1 := Lib.hid (HS0.out w1 (Array.replicate 32 (.int .u32 0)) hb)
  have hz1 : (w1.alloc (.cells (Array.replicate 32 (.int .u32 0)) 51)).heap[w1.heap.size]? = some (.cells (Array.replicate 32 (.int .u32 0)) 51 (0, 0)) := heap_alloc_new w1 _
  generalize shA 8 = A8 at *
  clear HOB HS0 hb
  go_wp2_with (refine wpList_store_row rfl 51 (.tmp 5) (.tmp 6) rfl w1.heap.size A8 rfl rfl 51 (Array.replicate 32 (.int .u32 0)) hz1 hs8 hz8 ho8 ?_)
  rw [HZ.out] at HS1
  clear hz1 hs8 hz8 ho8
  generalize ((w1.alloc (.cells #[.int .u32 0, .int .u32 0, .int .u32 0, .int .u32 0, .int .u32 0, .int .u32 0, .int .u32 0, .int .u32 0, .int .u32 0, .int .u32 0, .int .u32 0, .int .u32 0, .int .u32 0, .int .u32 0, .int .u32 0, .int .u32 0, .int .u32 0, .int .u32 0, .int .u32 0, .int .u32 0, .int .u32 0, .int .u32 0, .int .u32 0, .int .u32 0, .int .u32 0, .int .u32 0, .int .u32 0, .int .u32 0, .int .u32 0, .int .u32 0, .int .u32 0, .int .u32 0] 51)).setRow w1.heap.size A8) = W3 at *
  dsimp only [Act.put]
  go_loopw [0, 1, 5] (fun vr vc vp wr => ∃ acc q g : Nat, vr = .int .u32 acc ∧ vc = .int .i64 q ∧ vp = .pointer (some ⟨g, 0, none⟩) ∧ q ≤ n ∧ Hid (Sf r n w acc q g wr)) (fun _ vc _ _ => (intOf vc).toNat)
  case atStart => exact ⟨r, n, w1.heap.size, rfl, rfl, rfl, Nat.le_refl _, HS1⟩
  case round =>
    obtain ⟨acc, q, g, rfl, rfl, rfl, hq, HS⟩ := hrel
    obtain ⟨m, hacc, hg, hI, hsh, hB⟩ := HS.out
    by_cases h0 : q = 0
    · subst h0
      have HSH := Lib.hid hsh
      have HB := Lib.hid hB
      clear hsh hB hI
      go_wp2
      go_ret
      exact ⟨by rw [HSH.out]; rfl, HB.out⟩
    · have hq0 : 0 < (q : Int) := by omega
      have hgA := hI.1
      have hsA := shA_info m
      have hoA := shA_one m
      have hzA : (Array.replicate 32 (Value.int .u32 0)).size = (shA m).size := by rw [shA_size]; simp
      have hsB := shA_info (2 * m)
      have hoB := shA_one (2 * m)
      have hzB : (shA m).size = (shA (2 * m)).size := by rw [shA_size, shA_size]
      have HQ := Lib.hid (HSQ.out m)
      by_cases hodd : q % 2 = 1
      · have hb1 : ((q : Int) % 2 == 1) = true := beq_iff_eq.2 (by omega)
        have HSH : Hid (shN (8 * n) r = shN (2 * m * (q / 2)) (shN m acc)) := by show _ = _; rw [hsh, shift_odd hodd]
        have HB := Lib.hid hB
        have HA := Lib.hid (HAP.out m acc hacc)
        have HACC := Lib.hid (shN_lt m hacc)
        clear hodd hsh hB HAP HSQ HZ
        generalize shN m acc = ac2 at *
        generalize hA : shA m = A at *
        generalize hBB : shA (2 * m) = B at *
        have HBE := Lib.hid hBB
        clear hA hBB
        go_wp2_with (refine wpList_load_row rfl 51 (.tmp 5) rfl g rfl 51 A (0, 0) _ hgA Try.underlying51 rfl hsA ?_)
        refine (HA.out _).mono ?_
        rintro e w2 ⟨rfl, hb2⟩
        have hg2 : w2.heap[g]? = some (.cells A 51 (0, 0)) := (hb2.block g (Array.getElem?_eq_some_iff.1 hgA).1).trans hgA
        have HBW := Lib.hid (HB.out.trans (hb2.mono HB.out.size))
        clear hb2
        go_wp2_with (first
          | (refine wpList_load_row rfl 51 (.tmp 5) rfl g rfl 51 A (0, 0) _ hg2 Try.underlying51 rfl hsA ?_)
          | (refine wpList_store_row rfl 51 (.tmp 5) (.tmp 19) rfl w2.heap.size A rfl rfl 51 (Array.replicate 32 (.int .u32 0)) (heap_alloc_new w2 _) hsA hzA hoA ?_)
          | (refine wpList_load_row rfl 51 (.tmp 5) rfl w2.heap.size rfl 51 A (0, 0) _ (shf_new w2 _ A) Try.underlying51 rfl hsA ?_))
        refine (HQ.out _).mono ?_
        rintro e w3 ⟨rfl, hb3⟩
        have hs3 : w2.heap.size < w3.heap.size := by have := hb3.size; rw [size_setRow, World.size_alloc] at this; omega
        have hg3 : w3.heap[w2.heap.size]? = some (.cells A 51 (0, 0)) := by
          rw [hb3.block w2.heap.size (by rw [size_setRow, World.size_alloc]; omega)]
          exact shf_new w2 _ A
        have HST : Hid (Sf r n w ac2 (q / 2) w2.heap.size (w3.setRow w2.heap.size B)) := by
          have hbw : Below w.heap.size w w3 := (below_setRow (HBW.out.alloc HBW.out.size _) HBW.out.size A).trans (hb3.mono (by rw [size_setRow, World.size_alloc]; have := HBW.out.size; omega))
          refine ⟨2 * m, HACC.out, HBW.out.size, ⟨?_, ?_, ?_⟩, HSH.out, below_setRow hbw HBW.out.size B⟩
          · rw [HBE.out]; exact setRow_heap _ _ _ _ _ _ hg3
          · exact shA_size _
          · exact shA_one _
        clear hb3
        go_wp2_with (refine wpList_store_row rfl 51 (.tmp 5) (.tmp 10) rfl w2.heap.size B rfl rfl 51 A hg3 hsB hzB hoB ?_)
        dsimp only [Act.put]
        go_roundw
        case rel => exact ⟨ac2, q / 2, w2.heap.size, rfl, by go_num, rfl, by omega, HST⟩
        case measure => simp [intOf]; omega
      · have hb1 : ((q : Int) % 2 == 1) = false := beq_eq_false_iff_ne.2 (by omega)
        have HSH : Hid (shN (8 * n) r = shN (2 * m * (q / 2)) acc) := by show _ = _; rw [hsh, shift_even hodd]
        have HBW := Lib.hid hB
        have HACC := Lib.hid hacc
        clear hodd hsh hB HAP HSQ HZ
        generalize hA : shA m = A at *
        generalize hBB : shA (2 * m) = B at *
        have HBE := Lib.hid hBB
        clear hA hBB
        have hg2 := hgA
        go_wp2_with (first
          | (refine wpList_load_row rfl 51 (.tmp 5) rfl g rfl 51 A (0, 0) _ hg2 Try.underlying51 rfl hsA ?_)
          | (refine wpList_store_row rfl 51 (.tmp 5) (.tmp 19) rfl wr.heap.size A rfl rfl 51 (Array.replicate 32 (.int .u32 0)) (heap_alloc_new wr _) hsA hzA hoA ?_)
          | (refine wpList_load_row rfl 51 (.tmp 5) rfl wr.heap.size rfl 51 A (0, 0) _ (shf_new wr _ A) Try.underlying51 rfl hsA ?_))
        refine (HQ.out _).mono ?_
        rintro e w3 ⟨rfl, hb3⟩
        have hs3 : wr.heap.size < w3.heap.size := by have := hb3.size; rw [size_setRow, World.size_alloc] at this; omega
        have hg3 : w3.heap[wr.heap.size]? = some (.cells A 51 (0, 0)) := by
          rw [hb3.block wr.heap.size (by rw [size_setRow, World.size_alloc]; omega)]
          exact shf_new wr _ A
        have HST : Hid (Sf r n w acc (q / 2) wr.heap.size (w3.setRow wr.heap.size B)) := by
          have hbw : Below w.heap.size w w3 := (below_setRow (HBW.out.alloc HBW.out.size _) HBW.out.size A).trans (hb3.mono (by rw [size_setRow, World.size_alloc]; have := HBW.out.size; omega))
          refine ⟨2 * m, HACC.out, HBW.out.size, ⟨?_, ?_, ?_⟩, HSH.out, below_setRow hbw HBW.out.size B⟩
          · rw [HBE.out]; exact setRow_heap _ _ _ _ _ _ hg3
          · exact shA_size _
          · exact shA_one _
        clear hb3
        go_wp2_with (refine wpList_store_row rfl 51 (.tmp 5) (.tmp 10) rfl wr.heap.size B rfl rfl 51 A hg3 hsB hzB hoB ?_)
        dsimp only [Act.put]
        go_roundw
        case rel => exact ⟨acc, q / 2, wr.heap.size, rfl, by go_num, rfl, by omega, HST⟩
        case measure => simp [intOf]; omega
end Go.Proofs.Ytnkaigmonkmedaa
