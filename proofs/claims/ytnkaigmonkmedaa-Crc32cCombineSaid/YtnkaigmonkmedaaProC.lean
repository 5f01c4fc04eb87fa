/- apply of the program of layer 2. -/
import Derived.Test.YtnkaigmonkmedaaProA
import Derived.Test.YtnkaigmonkmedaaRefD
import Derived.Test.YtnkaigmonkmedaaRefF
import Derived.Outline
namespace Go.Proofs.Ytnkaigmonkmedaa
open Go.RowKit

theorem info51 : (Try.prog.info? 51).map (·.size) = some 32 := by kernel_rfl
theorem idx_arr (A : Array Value) (k : Nat) (v : Value) (hk : k < 32) (hv : A[k]? = some v) (w : World) :
    (Instr.index 51 (.agg A) (.int .i64 k)).run Try.prog w = .ok v w := by
  have hn : 0 ≤ (k : Int) ∧ (k : Int) < ((32 : Nat) : Int) := by omega
  have hs : (sizeOf 22).run Try.prog w = .ok 1 w := by kernel_rfl
  have hg : (isAgg 22).run Try.prog w = .ok false w := by kernel_rfl
  have hp : (part 22 A (k * 1)).run Try.prog w = .ok v w := by
    rw [Nat.mul_one]
    simp [part, hg, hv]
  simp only [Instr.index, asIntOf, run_underlying Try.underlying51, Sem.run_bind, Sem.run_pure, Result.andThen_ok]
  rw [if_pos hn]
  simp only [Sem.run_bind, hs, Result.andThen_ok, Int.toNat_natCast, hp]

set_option maxHeartbeats 400000 in
theorem papply_any (f : Nat → Nat) (hf : ∀ i, i < 32 → f (2 ^ i) < 4294967296) (r : Nat) (hr : r < 4294967296) (w : World) :
    Calls Try.prog 34 #[.agg (arr fun i => f (2 ^ i)), .int .u32 r] w fun e w' => e = .returned (.int .u32 (app f 32 r : Nat)) ∧ Below w.heap.size w w' := by
  have HF := Lib.hid hf
  clear hf
  have hA1 : (arr fun i => f (2 ^ i)).size = 32 := arr_size _
  have HC : Hid (∀ k : Nat, k < 32 → ∀ w, (Instr.index 51 (.agg (arr fun i => f (2 ^ i))) (.int .i64 k)).run Try.prog w = .ok (.int .u32 (f (2 ^ k) : Nat)) w) := fun k hk w =>
    idx_arr _ k _ hk (arr_at _ hk) w
  generalize arr (fun i => f (2 ^ i)) = A at *
  have hs51 : (Try.prog.info? 51).map (·.size) = some A.size := by rw [hA1]; exact info51
  clear hA1
  go_enter Try.func34, Try.ntmps34
  go_wp2_with (refine wpList_load_row rfl 51 (.tmp 2) rfl w.heap.size rfl 51 A (0, 0) _ ?h1 Try.underlying51 rfl hs51 ?_)
  case h1 => exact heap_alloc_new w _
  go_loop [5, 9] (fun vo vi => ∃ (k q : Nat), k ≤ 32 ∧ vi = .int .i64 k ∧ vo = .int .u32 q ∧ q < 4294967296 ∧ Hid (q = app f k r)) (fun _ vi => 32 - (intOf vi).toNat)
  case atStart => exact ⟨0, 0, by omega, rfl, rfl, by omega, rfl⟩
  case round =>
    obtain ⟨k, q, hk, rfl, rfl, hq, H⟩ := hrel
    by_cases hlt : k < 32
    · have hix := HC.out k hlt
      have hfk := HF.out k hlt
      have hik : (k : Int) < 32 := by omega
      have HX := Lib.hid (bits_xor_u32 q (f (2 ^ k)) hq hfk)
      have hq2 := xor_lt hq hfk
      by_cases hodd : r / 2 ^ k % 2 = 1
      · have HA : Hid (app f (k + 1) r = app f k r ^^^ f (2 ^ k)) := app_yes hodd
        have hb : (bits .and .u32 ((r : Int) / 2 ^ k) 1 == 1) = true := by rw [and_one r k hr, hodd]; rfl
        clear hodd
        go_wp2
        go_round
        case rel => exact ⟨k + 1, q ^^^ f (2 ^ k), by omega, by go_num, by rw [HX.out], hq2, by show _ = _; rw [HA.out, H.out]⟩
        case measure => simp [intOf]; omega
      · have HA : Hid (app f (k + 1) r = app f k r) := app_no hodd
        have hb : (bits .and .u32 ((r : Int) / 2 ^ k) 1 == 1) = false := by rw [and_one r k hr, show r / 2 ^ k % 2 = 0 by omega]; rfl
        clear hodd
        go_wp2
        go_round
        case rel => exact ⟨k + 1, q, by omega, by go_num, rfl, hq, by show _ = _; rw [HA.out, H.out]⟩
        case measure => simp [intOf]; omega
    · obtain rfl : k = 32 := by omega
      go_wp2
      go_ret
      exact ⟨by rw [← H.out]; rfl, (Below.refl _ _).alloc (Nat.le_refl _) _⟩
end Go.Proofs.Ytnkaigmonkmedaa
