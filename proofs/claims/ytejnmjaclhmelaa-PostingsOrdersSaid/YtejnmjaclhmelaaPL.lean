/- Layer 8: the laws' awake. -/
import Derived.Test.YtejnmjaclhmelaaPK
set_option linter.unusedVariables false
set_option linter.unusedSimpArgs false
namespace Go.Proofs.Ytejnmjaclhmelaa.Po
open Go.RowKit
/-- A list that the code writes out. -/
theorem Ints.made (w : World) (l : List Int) (n : Nat) (h : l.length = n) {B : Nat} (hB : w.heap.size + 1 ≤ B) : Ints B (w.alloc (.cells (ic l).toArray 3)) (.slice (some ⟨w.heap.size, 0, none⟩) n n) l := by
  subst h
  refine ⟨_, _, rfl, ⟨by rw [ic_len, Nat.mul_one], fun hn => ⟨_, rfl, by simp; omega, fun j u hu => ?_⟩⟩, Nat.le_refl _, fun _ ad e => by cases e; rfl, fun e => by cases e⟩
  rw [add_lit, World.cell?_alloc_at _ _ _ _ rfl]
  simpa using hu
theorem val_ex {l : List Int} (h : (l.all fun x => decide (okN x)) = true) (h2 : (chk l == 0) = true) : chk l = 0 := by simpa using h2
theorem ex_and : fltO true [1, 3, 5] [3, 4] = [3] := by decide
theorem ex_wi : fltO false [1, 3, 5] [3, 4] = [1, 5] := by decide
theorem ex_or : orO [1, 3, 5] [3, 4] = [1, 3, 4, 5] := by decide
theorem ex_seek : seekO [1, 3, 5] 4 = 2 := by decide
theorem uv296 : Lib.uvarint 296 = [168, 2] := by
  rw [Lib.uvarint_big (by omega), Lib.uvarint_small (by omega)]
  rfl
theorem ex_chk : chk [1, 3, 300] = 0 := by decide
theorem ex_encP : encP [1, 3, 300] = [3, 1, 1, 168, 2] := by
  unfold encP gapB gapB gapB gapB
  rw [show ((300 : Int) - (3 + 1)).toNat = 296 by decide, uv296, show ((1 : Int) - 0).toNat = 1 by decide, show ((3 : Int) - (1 + 1)).toNat = 1 by decide, show ([1, 3, 300] : List Int).length = 3 from rfl, Lib.uvarint_small (by omega), Lib.uvarint_small (by omega)]
  rfl
theorem ex_enc : encO [1, 3, 300] = ([3, 1, 1, 168, 2], 0) := by rw [encO_ok ex_chk, ex_encP]
theorem ex_dec : decO [3, 1, 1, 168, 2] = ([1, 3, 300], 0) := by rw [← ex_encP]; exact dec_back ex_chk (by decide)
theorem same_self (l : List Int) : sameB l l = true := decide_eq_true rfl
/-- Same, of two lists that are one. -/
theorem same_yes (xs ys : List Int) (h : xs = ys) (hx : xs.length ≤ 1000000) (sx sy : Value) (w : World) (hX : Ints w.heap.size w sx xs) (hY : Ints w.heap.size w sy ys) :
    Calls Try.prog 16 #[sx, sy] w fun e w' => e = .returned (.bool true) ∧ Below w.heap.size w w' := by
  have h1 := pSame_any xs ys hx sx sy w hX.at hY.at
  subst h
  rw [same_self] at h1
  exact h1
end Go.Proofs.Ytejnmjaclhmelaa.Po
