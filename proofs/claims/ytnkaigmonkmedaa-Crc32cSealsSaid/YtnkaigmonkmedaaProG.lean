/- Combine of the program and of the reference of layer 2. -/
import Derived.Test.YtnkaigmonkmedaaProF
namespace Go.Proofs.Ytnkaigmonkmedaa
open Go.RowKit

set_option maxHeartbeats 1000000 in
theorem combine_any (a b n : Nat) (ha : a < 4294967296) (hb : b < 4294967296) (hn : n < 9223372036854775808) (w : World) :
    Calls Try.prog 17 #[.int .u32 a, .int .u32 b, .int .i64 n] w fun e w' => e = .returned (.int .u32 (combC a b n : Nat)) ∧ Below w.heap.size w w' := by
  have hp := fun w => pshift_any a n ha hn w
  have hl := shN_lt (8 * n) ha
  have hE : combC a b n = shN (8 * n) a ^^^ b := rfl
  generalize shN (8 * n) a = x at *
  have HX := Lib.hid (bits_xor_u32 x b hl hb)
  rw [← hE] at HX
  generalize combC a b n = y at *
  have HP := Lib.hid hp
  clear hp hE
  have h0 : ¬ ((n : Int) < 0) := by omega
  go_enter Try.func17, Try.ntmps17
  go_wp2_with fail
  refine (HP.out _).mono ?_
  rintro e w1 ⟨rfl, hb1⟩
  go_wp2
  go_ret
  exact ⟨ret_u32 HX.out, hb1⟩
set_option maxHeartbeats 1000000 in
theorem combine_neg (a b : Nat) (n : Int) (hn : n < 0) (hn2 : -9223372036854775808 ≤ n) (w : World) :
    Calls Try.prog 17 #[.int .u32 a, .int .u32 b, .int .i64 n] w fun e w' => e = .returned (.int .u32 0) ∧ Below w.heap.size w w' := by
  go_enter Try.func17, Try.ntmps17
  go_wp2
  go_ret
  exact ⟨rfl, Below.refl _ _⟩
set_option maxHeartbeats 1000000 in
theorem refCombine_neg (a b : Nat) (n : Int) (hn : n < 0) (hn2 : -9223372036854775808 ≤ n) (w : World) :
    Calls Try.prog 18 #[.int .u32 a, .int .u32 b, .int .i64 n] w fun e w' => e = .returned (.int .u32 0) ∧ Below w.heap.size w w' := by
  go_enter Try.func18, Try.ntmps18
  go_wp2
  go_ret
  exact ⟨rfl, Below.refl _ _⟩

def Oa (w : World) (k : Nat) (wr : World) : Prop := IsArr wr w.heap.size (fil 8 k) ∧ Below w.heap.size w wr
theorem shA_info46 (n : Nat) : (Try.prog.info? 46).map (·.size) = some (shA n).size := by rw [shA_size]; exact infoArr
/-- What holds ahead of each round of the second loop. -/
def Ra (r n : Nat) (w : World) (acc q : Nat) (wr : World) : Prop :=
  ∃ m, acc < 4294967296 ∧ IsArr wr w.heap.size (shA m) ∧ shN (8 * n) r = shN (m * q) acc ∧ Below w.heap.size w wr

set_option maxHeartbeats 2000000 in
set_option maxRecDepth 100000 in
theorem refCombine_any (a b n : Nat) (ha : a < 4294967296) (hb : b < 4294967296) (hn : n < 9223372036854775808) (w : World) :
    Calls Try.prog 18 #[.int .u32 a, .int .u32 b, .int .i64 n] w fun e w' => e = .returned (.int .u32 (combC a b n : Nat)) ∧ Below w.heap.size w w' := by
  have hsq : ∀ m w, Calls Try.prog 30 #[.agg (shA m)] w fun e w' => e = .returned (.agg (shA (2 * m))) ∧ Below w.heap.size w w' := fun m w => square_any m w
  have hap : ∀ (m x : Nat), x < 4294967296 → ∀ w, Calls Try.prog 29 #[.agg (shA m), .int .u32 x] w fun e w' => e = .returned (.int .u32 (shN m x : Nat)) ∧ Below w.heap.size w w' := fun m x hx w => by
    have h := apply_any (shN m) (fun i hi => shN_lt m (Nat.lt_of_lt_of_le (Nat.pow_lt_pow_right (by decide) hi) (by decide))) x hx w
    rw [app_shN m hx] at h
    exact h
  have hl := shN_lt (8 * n) ha
  have HX := Lib.hid (bits_xor_u32 (shN (8 * n) a) b hl hb)
  have hE : combC a b n = shN (8 * n) a ^^^ b := rfl
  rw [← hE] at HX
  clear hE hl
  generalize combC a b n = y at *
  have HSQ := Lib.hid hsq
  have HAP := Lib.hid hap
  have hOa : ∀ k wr, Oa w k wr ↔ (IsArr wr w.heap.size (fil 8 k) ∧ Below w.heap.size w wr) := fun k wr => Iff.rfl
  have HOA := Lib.hid hOa
  clear hsq hap hOa
  have hm0 := fil_zero 8
  have hm32 : fil 8 32 = shA 8 := fil_all 8
  have HM32 := Lib.hid hm32
  have hzz : (Array.replicate 32 (Value.int .u32 0)).size = 32 ∧ (Array.replicate 32 (Value.int .u32 0)).all (·.oneCell') = true := ⟨by simp, rep_one⟩
  have HZ : Hid (Array.replicate 32 (Value.int .u32 0) = #[.int .u32 0, .int .u32 0, .int .u32 0, .int .u32 0, .int .u32 0, .int .u32 0, .int .u32 0, .int .u32 0, .int .u32 0, .int .u32 0, .int .u32 0, .int .u32 0, .int .u32 0, .int .u32 0, .int .u32 0, .int .u32 0, .int .u32 0, .int .u32 0, .int .u32 0, .int .u32 0, .int .u32 0, .int .u32 0, .int .u32 0, .int .u32 0, .int .u32 0, .int .u32 0, .int .u32 0, .int .u32 0, .int .u32 0, .int .u32 0, .int .u32 0, .int .u32 0]) := rfl
  have hstart : Hid (Oa w 0 ((w.alloc (.cells (Array.replicate 32 (.int .u32 0)) 46)).setRow w.heap.size (Array.replicate 32 (.int .u32 0)))) := by
    refine (HOA.out 0 _).2 ⟨⟨?_, by rw [hm0]; exact hzz.1, by rw [hm0]; exact hzz.2⟩, below_setRow ((Below.refl _ _).alloc (Nat.le_refl _) _) (Nat.le_refl _) _⟩
    rw [hm0]; exact setRow_heap _ _ _ _ _ _ (heap_alloc_new w _)
  have HS1 : Hid (Oa w 0 ((w.alloc (.cells #[.int .u32 0, .int .u32 0, .int .u32 0, .int .u32 0, .int .u32 0, .int .u32 0, .int .u32 0, .int .u32 0, .int .u32 0, .int .u32 0, .int .u32 0, .int .u32 0, .int .u32 0, .int .u32 0, .int .u32 0, .int .u32 0, .int .u32 0, .int .u32 0, .int .u32 0, .int .u32 0, .int .u32 0, .int .u32 0, .int .u32 0, .int .u32 0, .int .u32 0, .int .u32 0, .int .u32 0, .int .u32 0, .int .u32 0, .int .u32 0, .int .u32 0, .int .u32 0] 46)).setRow w.heap.size (Array.replicate 32 (.int .u32 0)))) := by
    rw [← HZ.out]; exact hstart
  clear hstart HZ
  have hzi : (Try.prog.info? 46).map (·.size) = some (Array.replicate 32 (Value.int .u32 0)).size := by rw [hzz.1]; exact infoArr
  have hzo := hzz.2
  clear hm0 hm32 hzz
  have h0 : ¬ ((n : Int) < 0) := by omega
  go_enter Try.func18, Try.ntmps18
  go_wp2_with (refine wpList_store_row rfl 46 (.tmp 7) (.tmp 12) rfl w.heap.size (Array.replicate 32 (.int .u32 0)) rfl rfl 46 (Array.replicate 32 (.int .u32 0)) (heap_alloc_new w _) hzi rfl hzo ?_)
  clear hzi hzo
  generalize ((w.alloc (.cells #[.int .u32 0, .int .u32 0, .int .u32 0, .int .u32 0, .int .u32 0, .int .u32 0, .int .u32 0, .int .u32 0, .int .u32 0, .int .u32 0, .int .u32 0, .int .u32 0, .int .u32 0, .int .u32 0, .int .u32 0, .int .u32 0, .int .u32 0, .int .u32 0, .int .u32 0, .int .u32 0, .int .u32 0, .int .u32 0, .int .u32 0, .int .u32 0, .int .u32 0, .int .u32 0, .int .u32 0, .int .u32 0, .int .u32 0, .int .u32 0, .int .u32 0, .int .u32 0] 46)).setRow w.heap.size (Array.replicate 32 (.int .u32 0))) = W3 at *
  generalize (#[.int .u32 0, .int .u32 0, .int .u32 0, .int .u32 0, .int .u32 0, .int .u32 0, .int .u32 0, .int .u32 0, .int .u32 0, .int .u32 0, .int .u32 0, .int .u32 0, .int .u32 0, .int .u32 0, .int .u32 0, .int .u32 0, .int .u32 0, .int .u32 0, .int .u32 0, .int .u32 0, .int .u32 0, .int .u32 0, .int .u32 0, .int .u32 0, .int .u32 0, .int .u32 0, .int .u32 0, .int .u32 0, .int .u32 0, .int .u32 0, .int .u32 0, .int .u32 0] : Array Value) = Z0 at *
  go_loopw [8] (fun vi wr => ∃ k : Nat, k ≤ 32 ∧ vi = .int .i64 k ∧ Oa w k wr) (fun vi _ => 32 - (intOf vi).toNat)
  case atStart => exact ⟨0, by omega, rfl, HS1⟩
  case round =>
    obtain ⟨k, hk, rfl, hsq⟩ := hrel
    have HS := Lib.hid hsq
    clear hsq
    by_cases hlt : k < 32
    · have hi := (HOA.out k wr).1 HS.out
      have hlt2 : 2 ^ k < 4294967296 := Nat.lt_of_lt_of_le (Nat.pow_lt_pow_right (by decide) hlt) (by decide)
      have hik : (k : Int) < 32 := by omega
      have HCALL : Hid (∀ w, Calls Try.prog 28 #[.int .u32 ((2 : Int) ^ k % 4294967296)] w fun e w' => e = .returned (.int .u32 (shN 8 (2 ^ k) : Nat)) ∧ w = w') := fun w => by
        have hp : ((2 : Int) ^ k % 4294967296) = ((2 ^ k : Nat) : Int) := by
          have h : ((2 : Int) ^ k) = ((2 ^ k : Nat) : Int) := by simp
          rw [h]
          generalize 2 ^ k = p at *
          omega
        rw [hp]
        exact shift_any (2 ^ k) w hlt2
      have hmk : k < (fil 8 k).size := by rw [hi.1.2.1]; exact hlt
      have hc : wr.cell? ⟨w.heap.size, k, none⟩ = some ((fil 8 k)[k]) := by
        rw [cell_of_row wr _ k (fil 8 k) 46 (0, 0) hi.1.1, Array.getElem?_eq_getElem hmk]
      have hf : wr.frozen? ⟨w.heap.size, k, none⟩ = false := frozen_of_row wr _ k (fil 8 k) 46 hi.1.1
      have HSTEP : Hid (Oa w (k + 1) (wr.setCell ⟨w.heap.size, k, none⟩ (.int .u32 (shN 8 (2 ^ k) : Nat)))) := by
        refine (HOA.out (k + 1) _).2 ⟨⟨?_, ?_, ?_⟩, hi.2.setCell (by simp) _⟩
        · rw [heap_setCell_same wr _ k (fil 8 k) 46 _ hi.1.1, fil_succ 8 k]
        · rw [← fil_succ 8 k, Array.size_setIfInBounds]; exact hi.1.2.1
        · exact arr_one _
      generalize shN 8 (2 ^ k) = z at *
      clear hi
      go_wp2_with fail
      refine (HCALL.out _).mono ?_
      rintro e w' ⟨rfl, rfl⟩
      go_wp2
      go_roundw
      case rel => exact ⟨k + 1, by omega, by go_num, HSTEP.out⟩
      case measure => simp [intOf]; omega
    · obtain rfl : k = 32 := by omega
      have hi := (HOA.out 32 wr).1 HS.out
      rw [HM32.out] at hi
      have HR0 : Hid (Ra a n w a n wr) := ⟨8, ha, hi.1, rfl, hi.2⟩
      clear hi
      go_wp2
      go_loopw [0, 9] (fun vr vc wr => ∃ acc q : Nat, vr = .int .u32 acc ∧ vc = .int .i64 q ∧ q ≤ n ∧ Hid (Ra a n w acc q wr)) (fun _ vc _ => (intOf vc).toNat)
      case atStart => exact ⟨a, n, rfl, rfl, Nat.le_refl _, HR0⟩
      case round =>
        obtain ⟨acc, q, rfl, rfl, hq, HS⟩ := hrel
        obtain ⟨m, hacc, hI, hsh, hB⟩ := HS.out
        by_cases h0 : q = 0
        · subst h0
          have HSH := Lib.hid hsh
          have HB := Lib.hid hB
          clear hsh hB hI
          rw [Nat.mul_zero] at HSH
          have hE : Hid (bits .xor .u32 (acc : Int) b = (y : Nat)) := by
            have h := HX.out
            rw [HSH.out] at h
            exact h
          go_wp2
          go_ret
          exact ⟨ret_u32 hE.out, HB.out⟩
        · have hq0 : 0 < (q : Int) := by omega
          have hgA := hI.1
          have hsA := shA_info46 m
          have hsB := shA_info46 (2 * m)
          have hoB := shA_one (2 * m)
          have hzB : (shA m).size = (shA (2 * m)).size := by rw [shA_size, shA_size]
          have HQ := Lib.hid (HSQ.out m)
          by_cases hodd : q % 2 = 1
          · have hb1 : ((q : Int) % 2 == 1) = true := beq_iff_eq.2 (by omega)
            have HSH : Hid (shN (8 * n) a = shN (2 * m * (q / 2)) (shN m acc)) := by show _ = _; rw [hsh, shift_odd hodd]
            have HB := Lib.hid hB
            have HA := Lib.hid (HAP.out m acc hacc)
            have HACC := Lib.hid (shN_lt m hacc)
            clear hodd hsh hB HAP HSQ
            generalize shN m acc = ac2 at *
            generalize hA : shA m = A at *
            generalize hBB : shA (2 * m) = B at *
            have HBE := Lib.hid hBB
            clear hA hBB
            go_wp2_with (refine wpList_load_row rfl 46 (.tmp 7) rfl w.heap.size rfl 46 A (0, 0) _ hgA Try.underlying46 rfl hsA ?_)
            refine (HA.out _).mono ?_
            rintro e w2 ⟨rfl, hb2⟩
            have hg2 : w2.heap[w.heap.size]? = some (.cells A 46 (0, 0)) := (hb2.block w.heap.size (Array.getElem?_eq_some_iff.1 hgA).1).trans hgA
            have HBW := Lib.hid (HB.out.trans (hb2.mono HB.out.size))
            clear hb2
            go_wp2_with (refine wpList_load_row rfl 46 (.tmp 7) rfl w.heap.size rfl 46 A (0, 0) _ hg2 Try.underlying46 rfl hsA ?_)
            refine (HQ.out _).mono ?_
            rintro e w3 ⟨rfl, hb3⟩
            have hg3 : w3.heap[w.heap.size]? = some (.cells A 46 (0, 0)) := (hb3.block w.heap.size (Array.getElem?_eq_some_iff.1 hg2).1).trans hg2
            have HST : Hid (Ra a n w ac2 (q / 2) (w3.setRow w.heap.size B)) := by
              refine ⟨2 * m, HACC.out, ⟨?_, ?_, ?_⟩, HSH.out, below_setRow (HBW.out.trans (hb3.mono HBW.out.size)) (Nat.le_refl _) B⟩
              · rw [HBE.out]; exact setRow_heap _ _ _ _ _ _ hg3
              · exact shA_size _
              · exact shA_one _
            clear hb3
            go_wp2_with (refine wpList_store_row rfl 46 (.tmp 7) (.tmp 34) rfl w.heap.size B rfl rfl 46 A hg3 hsB hzB hoB ?_)
            go_roundw
            case rel =>
              refine ⟨_, _, _, _, _, _, _, _, _, _, _, _, _, _, ⟨ac2, q / 2, ?_, ?_, by omega, HST⟩, rfl⟩
              · rfl
              · go_num
            case measure => simp [intOf]; omega
          · have hb1 : ((q : Int) % 2 == 1) = false := beq_eq_false_iff_ne.2 (by omega)
            have HSH : Hid (shN (8 * n) a = shN (2 * m * (q / 2)) acc) := by show _ = _; rw [hsh, shift_even hodd]
            have HBW := Lib.hid hB
            have HACC := Lib.hid hacc
            clear hodd hsh hB HAP HSQ
            generalize hA : shA m = A at *
            generalize hBB : shA (2 * m) = B at *
            have HBE := Lib.hid hBB
            clear hA hBB
            have hg2 := hgA
            go_wp2_with (refine wpList_load_row rfl 46 (.tmp 7) rfl w.heap.size rfl 46 A (0, 0) _ hg2 Try.underlying46 rfl hsA ?_)
            refine (HQ.out _).mono ?_
            rintro e w3 ⟨rfl, hb3⟩
            have hg3 : w3.heap[w.heap.size]? = some (.cells A 46 (0, 0)) := (hb3.block w.heap.size (Array.getElem?_eq_some_iff.1 hg2).1).trans hg2
            have HST : Hid (Ra a n w acc (q / 2) (w3.setRow w.heap.size B)) := by
              refine ⟨2 * m, HACC.out, ⟨?_, ?_, ?_⟩, HSH.out, below_setRow (HBW.out.trans (hb3.mono HBW.out.size)) (Nat.le_refl _) B⟩
              · rw [HBE.out]; exact setRow_heap _ _ _ _ _ _ hg3
              · exact shA_size _
              · exact shA_one _
            clear hb3
            go_wp2_with (refine wpList_store_row rfl 46 (.tmp 7) (.tmp 34) rfl w.heap.size B rfl rfl 46 A hg3 hsB hzB hoB ?_)
            go_roundw
            case rel =>
              refine ⟨_, _, _, _, _, _, _, _, _, _, _, _, _, _, ⟨acc, q / 2, ?_, ?_, by omega, HST⟩, rfl⟩
              · rfl
              · go_num
            case measure => simp [intOf]; omega
end Go.Proofs.Ytnkaigmonkmedaa
