/- Layer 6: the program's sets of bytes, and its literals. -/
import Derived.Test.YtilfggnhaehbcaaPA
set_option linter.unusedVariables false
set_option linter.unusedSimpArgs false
namespace Go.Proofs.Ytilfggnhaehbcaa.Rx
open Go.RowKit
/-- A set with the bytes from lo on, below k. -/
def upto (f : UInt8 → Bool) (lo k : Nat) (x : UInt8) : Bool := f x || decide (lo ≤ x.toNat ∧ x.toNat < k)
theorem upto_zero (f : UInt8 → Bool) (lo : Nat) (x : UInt8) : upto f lo lo x = f x := by
  unfold upto
  rw [decide_eq_false (by omega), Bool.or_false]
theorem upto_step (f : UInt8 → Bool) {lo k : Nat} (h : lo ≤ k) (x : UInt8) : (if x.toNat = k then true else upto f lo k x) = upto f lo (k + 1) x := by
  unfold upto
  by_cases hx : x.toNat = k
  · rw [if_pos hx, decide_eq_true (show lo ≤ x.toNat ∧ x.toNat < k + 1 by omega), Bool.or_true]
  · rw [if_neg hx]
    congr 1
    rw [Bool.eq_iff_iff, decide_eq_true_iff, decide_eq_true_iff]
    omega
theorem upto_end (f : UInt8 → Bool) {lo hi : UInt8} {k : Nat} (h : k = hi.toNat + 1 ∨ (k = lo.toNat ∧ hi.toNat < k)) (x : UInt8) : upto f lo.toNat k x = addR f lo hi x := by
  unfold upto addR
  congr 1
  rw [Bool.eq_iff_iff, decide_eq_true_iff, decide_eq_true_iff]
  omega
theorem set_front {f : UInt8 → Bool} {tail : List Value} {k : Nat} (hk : k < 256) (b : Bool) : (clsC f ++ tail).set k (.bool b) = clsC (fun x => if x.toNat = k then b else f x) ++ tail := by
  rw [List.set_append, if_pos (by rw [clsC_len]; exact hk), clsC_set f hk b]
theorem front_at {f : UInt8 → Bool} {tail : List Value} {k : Nat} (hk : k < 256) : (clsC f ++ tail)[k]? = some (.bool (f (UInt8.ofNat k))) := by
  rw [List.getElem?_append_left (by rw [clsC_len]; exact hk), clsC_at f hk]
def AddPost (g : Nat) (t : TypeId) (f : UInt8 → Bool) (tail : List Value) (w : World) (e : Ending) (w' : World) : Prop := e = .returned (.tuple #[]) ∧ Blk w' g t (clsC f ++ tail) ∧ But (· = g) w w' ∧ w'.heap.size = w.heap.size
set_option maxHeartbeats 2000000 in
theorem add_any (g : Nat) (t : TypeId) (f : UInt8 → Bool) (tail : List Value) (lo hi : UInt8) (w : World) (hg : Blk w g t (clsC f ++ tail)) :
    Calls Try.prog 83 #[.pointer (some ⟨g, 0, none⟩), .int .u8 (lo.toNat : Int), .int .u8 (hi.toNat : Int)] w (AddPost g t (addR f lo hi) tail w) := by
  have G0 : Hid (Blk w g t (clsC (upto f lo.toNat lo.toNat) ++ tail)) := by
    rw [clsC_ext (upto_zero f lo.toNat)]
    exact hg
  have hl := lo.toNat_lt
  have hh := hi.toNat_lt
  clear hg
  go_enter Try.func83, Try.ntmps83
  go_wp2_with fail
  go_loopw [6] (fun vi wr => ∃ k : Nat, lo.toNat ≤ k ∧ (k ≤ hi.toNat + 1 ∨ k = lo.toNat) ∧ vi = .int .i64 k ∧ Hid (Blk wr g t (clsC (upto f lo.toNat k) ++ tail)) ∧ Hid (But (· = g) w wr) ∧ Hid (wr.heap.size = w.heap.size)) (fun vi _ => 257 - (intOf vi).toNat)
  case atStart => exact ⟨lo.toNat, Nat.le_refl _, .inr rfl, rfl, G0, But.refl _ _, rfl⟩
  case round =>
    clear G0
    obtain ⟨k, hk1, hk2, rfl, HG, HB, HS⟩ := hrel
    by_cases hlt : k ≤ hi.toNat
    · have h256 : k < 256 := by omega
      have h1 : wr.cell? ⟨g, k, none⟩ = some (.bool (upto f lo.toNat k (UInt8.ofNat k))) := by rw [HG.out.cell]; exact front_at h256
      have h2 := HG.out.froz k
      generalize upto f lo.toNat k (UInt8.ofNat k) = old at h1
      go_wp2_with fail
      go_roundw
      case rel =>
        refine ⟨k + 1, by omega, by omega, by go_num, ?_, HB.out.setCell (p := ⟨g, k, none⟩) (fun _ => rfl) _, ?_⟩
        · have h3 := HG.out.set k (.bool true)
          rw [set_front h256, clsC_ext (upto_step f hk1)] at h3
          exact h3
        · show (World.setCell _ _ _).heap.size = _
          rw [World.size_setCell]
          exact HS.out
      case measure => simp [intOf]; omega
    · go_wp2_with fail
      go_end0
      refine ⟨rfl, ?_, HB.out, HS.out⟩
      rw [← clsC_ext (upto_end f (lo := lo) (hi := hi) (k := k) (by omega))]
      exact HG.out
end Go.Proofs.Ytilfggnhaehbcaa.Rx
