/- Layer 6: the program's search: what a round needs. -/
import Derived.Lib.SliceRun
import Derived.BigFrame
import Derived.Deep.CutRange
import Derived.Test.YtilfggnhaehbcaaRE
set_option linter.unusedVariables false
set_option linter.unusedSimpArgs false
namespace Go.Proofs.Ytilfggnhaehbcaa.Rx
open Go.RowKit
theorem fold2_cnt {M : List Nd} {s : List UInt8} {p k : Nat} : ∀ (l : List (Nat × Nat)) (R : Rn), cnt (l.foldl (fun R x => dfs M s p k R x.1 x.2) R) ≤ cnt R ∧ (l.foldl (fun R x => dfs M s p k R x.1 x.2) R).lat.length + cnt (l.foldl (fun R x => dfs M s p k R x.1 x.2) R) ≤ R.lat.length + cnt R
  | [], R => ⟨Nat.le_refl _, Nat.le_refl _⟩
  | x :: l, R => by
    have h4 := dfs_cnt (M := M) (s := s) (p := p) k R x.1 x.2
    have h5 := fold2_cnt (M := M) (s := s) (p := p) (k := k) l (dfs M s p k R x.1 x.2)
    rw [List.foldl_cons]
    exact ⟨by omega, by omega⟩
theorem fold2_take {M : List Nd} {s : List UInt8} {p k : Nat} (l : List (Nat × Nat)) (R : Rn) (j : Nat) (hj : j < l.length) : (l.take (j + 1)).foldl (fun R x => dfs M s p k R x.1 x.2) R = dfs M s p k ((l.take j).foldl (fun R x => dfs M s p k R x.1 x.2) R) l[j].1 l[j].2 := by
  rw [List.take_add_one, List.getElem?_eq_getElem hj, List.foldl_append]
  rfl
/-- The positions that a text's place starts with. -/
def mid (M : List Nd) (s : List UInt8) (p : Nat) (L : List (Nat × Nat)) (bs : Nat × Nat) (fd : Bool) (j : Nat) : Rn := (L.take j).foldl (fun R x => dfs M s p (M.length + 1) R x.1 x.2) (blank M.length bs fd)
theorem mid_zero (M : List Nd) (s : List UInt8) (p : Nat) (L : List (Nat × Nat)) (bs : Nat × Nat) (fd : Bool) : mid M s p L bs fd 0 = blank M.length bs fd := by unfold mid; rw [List.take_zero]; rfl
theorem mid_step (M : List Nd) (s : List UInt8) (p : Nat) (L : List (Nat × Nat)) (bs : Nat × Nat) (fd : Bool) (j : Nat) (hj : j < L.length) : mid M s p L bs fd (j + 1) = dfs M s p (M.length + 1) (mid M s p L bs fd j) L[j].1 L[j].2 := fold2_take L _ j hj
theorem mid_cnt (M : List Nd) (s : List UInt8) (p : Nat) (L : List (Nat × Nat)) (bs : Nat × Nat) (fd : Bool) (j : Nat) : cnt (mid M s p L bs fd j) ≤ M.length ∧ (mid M s p L bs fd j).lat.length + cnt (mid M s p L bs fd j) ≤ M.length := by
  have h := fold2_cnt (M := M) (s := s) (p := p) (k := M.length + 1) (L.take j) (blank M.length bs fd)
  rw [blank_cnt] at h
  have e : (blank M.length bs fd).lat.length = 0 := rfl
  rw [e] at h
  exact ⟨h.1, by have := h.2; unfold mid; omega⟩
theorem pass_yes {M : List Nd} {s : List UInt8} {f0 last p : Nat} {L : List (Nat × Nat)} {bs : Nat × Nat} {fd : Bool} (h : p ≤ last) : pass M s f0 last p L bs fd = dfs M s p (M.length + 1) (mid M s p L bs fd L.length) f0 p := by
  unfold pass place mid
  rw [if_pos h, List.foldl_append, List.take_of_length_le (Nat.le_refl _)]
  rfl
theorem pass_no {M : List Nd} {s : List UInt8} {f0 last p : Nat} {L : List (Nat × Nat)} {bs : Nat × Nat} {fd : Bool} (h : ¬ p ≤ last) : pass M s f0 last p L bs fd = mid M s p L bs fd L.length := by
  unfold pass place mid
  rw [if_neg h, List.take_of_length_le (Nat.le_refl _)]
theorem pass_lt {M : List Nd} {s : List UInt8} {f0 last p : Nat} {L : List (Nat × Nat)} {bs : Nat × Nat} {fd : Bool} (h : Inv M f0 s last p L bs fd) (h0 : ∀ q, M[q]? = some .fin ↔ q = 0) (hM : ∀ q x, M[q]? = some x → q = 0 ∨ x.ok M.length) :
    ∀ x ∈ (pass M s f0 last p L bs fd).lat, x.1 < M.length := fun x hx => by
  obtain ⟨V, v, _⟩ := (fold_seq (M := M) (s := s) (p := p) (k := M.length + 1) (place f0 last p L) (blank M.length bs fd) (by rw [blank_cnt]; omega) (by
    unfold place
    split
    · rw [List.pairwise_append]
      refine ⟨h.asc, by simp, fun x hx y hy => ?_⟩
      simp only [List.mem_singleton] at hy
      subst hy
      exact Nat.le_of_lt (h.snd x hx).1
    · exact h.asc)).vis
  have hl : (pass M s f0 last p L bs fd).lat = V.filterMap (rd M s p) := by
    have := v.lat
    unfold pass
    rw [this]
    rfl
  rw [hl, List.mem_filterMap] at hx
  obtain ⟨y, hy, he⟩ := hx
  unfold rd at he
  split at he
  · rename_i f nx hq
    split at he
    · cases he
      rcases hM _ _ hq with h1 | h1
      · have := (h0 y.1).2 h1
        rw [hq] at this
        cases this
      · exact h1
    · cases he
  · cases he
/-- A slice of one's own from which all is cut. -/
theorem own_zero {w : World} {B n : Nat} {e : TypeId} {sz : Nat} {v : Value} {xs : List Value} (h : w.ownsRow B e sz v n xs) : ∃ A cap, v = .slice A n cap ∧ (A = none ∧ cap = 0 ∨ ∃ g, A = some ⟨g, 0, none⟩) ∧ w.ownsRow B e sz (.slice A 0 cap) 0 [] := by
  rcases h.2 with ⟨rfl, h0⟩ | ⟨g, cap, cur, rfl, h1, h2, h3, h4, h5, h6⟩
  · subst h0
    exact ⟨none, 0, rfl, .inl ⟨rfl, rfl⟩, World.ownsRow_nil _ _ _ _⟩
  · exact ⟨_, cap, rfl, .inr ⟨g, rfl⟩, by simp, .inr ⟨g, cap, cur, rfl, h1, h2, by omega, h4, h5, by simp⟩⟩
theorem addr_zero (g : Nat) : (⟨g, 0, none⟩ : Addr).add 0 = ⟨g, 0, none⟩ := rfl
theorem slice_zero {A : Option Addr} {n cap : Nat} (w : World) (h : A = none ∧ cap = 0 ∨ ∃ g, A = some ⟨g, 0, none⟩) : (Instr.sliceAt 72 (.slice A n cap) none (some (.int .i64 0)) none).run Try.prog w = .ok (.slice A 0 cap) w := by
  have hu : Try.prog.underlying 72 = some (.slice (Try.prog.elem 72)) := by kernel_rfl
  have hs : (sizeOf (Try.prog.elem 72)).run Try.prog w = .ok 2 w := by kernel_rfl
  rw [run_sliceAt_slice w 72 _ _ _ _ hu, run_slice_h w 72 A n cap hu .i64 0 (by omega) (by omega), hs]
  have e : sliced A 0 (0 : Int).toNat cap 2 = .slice A 0 cap := by
    unfold sliced
    rcases h with ⟨rfl, rfl⟩ | ⟨g, rfl⟩
    · rfl
    · show Value.slice (if cap = 0 then _ else some _) 0 (cap - 0) = _
      rw [Nat.sub_zero]
      split <;> rfl
  rw [← e]
  rfl
end Go.Proofs.Ytilfggnhaehbcaa.Rx
