/- The contracts of the reference of layer 2: apply, square, Combine. -/
import Derived.Test.YtnkaigmonkmedaaRefA
import Derived.Lib.VarintMem
namespace Go.Proofs.Ytnkaigmonkmedaa
open Go.RowKit

/-- An array of 32 registers, as a value. -/
def arr (f : Nat → Nat) : Array Value := ((List.range 32).map fun i => Value.int .u32 (f i : Nat)).toArray
theorem arr_at (f : Nat → Nat) {k : Nat} (hk : k < 32) : (arr f)[k]? = some (.int .u32 (f k : Nat)) := by
  simp [arr, hk]
theorem arr_size (f : Nat → Nat) : (arr f).size = 32 := by simp [arr]
theorem app_lt (f : Nat → Nat) (hf : ∀ i, i < 32 → f (2 ^ i) < 4294967296) (r : Nat) : ∀ k, k ≤ 32 → app f k r < 4294967296
  | 0, _ => by rw [app]; omega
  | k + 1, hk => by
    have h1 := app_lt f hf r k (by omega)
    rw [app]
    split
    · exact xor_lt h1 (hf k (by omega))
    · exact h1
theorem app_yes {f : Nat → Nat} {k r : Nat} (h : r / 2 ^ k % 2 = 1) : app f (k + 1) r = app f k r ^^^ f (2 ^ k) := by rw [app, if_pos h]
theorem app_no {f : Nat → Nat} {k r : Nat} (h : ¬ r / 2 ^ k % 2 = 1) : app f (k + 1) r = app f k r := by rw [app, if_neg h]

theorem bit_yes {r k : Nat} (h : r / 2 ^ k % 2 = 1) : (((r : Int) / 2 ^ k).tmod 2 == 1) = true := by
  have e : ((r : Int) / 2 ^ k) = ((r / 2 ^ k : Nat) : Int) := by simp
  rw [e, Int.tmod_eq_emod_of_nonneg (Int.natCast_nonneg _)]
  exact beq_iff_eq.2 (by omega)
theorem bit_no {r k : Nat} (h : ¬ r / 2 ^ k % 2 = 1) : (((r : Int) / 2 ^ k).tmod 2 == 1) = false := by
  have e : ((r : Int) / 2 ^ k) = ((r / 2 ^ k : Nat) : Int) := by simp
  rw [e, Int.tmod_eq_emod_of_nonneg (Int.natCast_nonneg _)]
  exact beq_eq_false_iff_ne.2 (by omega)

set_option maxHeartbeats 400000 in
theorem apply_any (f : Nat → Nat) (hf : ∀ i, i < 32 → f (2 ^ i) < 4294967296) (r : Nat) (hr : r < 4294967296) (w : World) :
    Calls Try.prog 29 #[.agg (arr fun i => f (2 ^ i)), .int .u32 r] w fun e w' => e = .returned (.int .u32 (app f 32 r : Nat)) ∧ Below w.heap.size w w' := by
  have HF := Lib.hid hf
  clear hf
  have HC : Hid (∀ k, k < 32 → (w.alloc (.cells (arr fun i => f (2 ^ i)) 46)).cell? ⟨w.heap.size, k, none⟩ = some (.int .u32 (f (2 ^ k) : Nat))) := fun k hk => by
    rw [World.cell?_alloc_mark, arr_at _ hk]
  go_enter Try.func29, Try.ntmps29
  go_wp2
  go_loop [5, 6] (fun vo vi => ∃ (k q : Nat), k ≤ 32 ∧ vi = .int .i64 k ∧ vo = .int .u32 q ∧ q < 4294967296 ∧ Hid (q = app f k r)) (fun _ vi => 32 - (intOf vi).toNat)
  case atStart => exact ⟨0, 0, by omega, rfl, rfl, by omega, rfl⟩
  case round =>
    obtain ⟨k, q, hk, rfl, rfl, hq, H⟩ := hrel
    by_cases hlt : k < 32
    · have hcell := HC.out k hlt
      have hfk := HF.out k hlt
      have HX := Lib.hid (bits_xor_u32 q (f (2 ^ k)) hq hfk)
      have hq2 := xor_lt hq hfk
      by_cases hodd : r / 2 ^ k % 2 = 1
      · have HA : Hid (app f (k + 1) r = app f k r ^^^ f (2 ^ k)) := app_yes hodd
        have hb := bit_yes hodd
        clear hodd
        go_wp2
        go_round
        case rel => exact ⟨k + 1, q ^^^ f (2 ^ k), by omega, by go_num, by rw [HX.out], hq2, by show _ = _; rw [HA.out, H.out]⟩
        case measure => simp [intOf]; omega
      · have HA : Hid (app f (k + 1) r = app f k r) := app_no hodd
        have hb := bit_no hodd
        clear hodd
        go_wp2
        go_round
        case rel => exact ⟨k + 1, q, by omega, by go_num, rfl, hq, by show _ = _; rw [HA.out, H.out]⟩
        case measure => simp [intOf]; omega
    · obtain rfl : k = 32 := by omega
      go_wp2
      go_ret
      exact ⟨by rw [← H.out]; rfl, (Below.refl _ _).alloc (Nat.le_refl _) _⟩

end Go.Proofs.Ytnkaigmonkmedaa
