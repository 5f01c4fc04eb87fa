/- Layer 10: slices.Clone at strings; a string repeated. -/
import Derived.Test.YtpinmmmbmhfmiaaDtP
set_option linter.unusedVariables false
set_option linter.unusedSimpArgs false
namespace Go.Proofs.Ytpinmmmbmhfmiaa.Dt
open Go.RowKit Go.Sort Dc
def stepR (y : BA) : List (BA × Nat) → List (BA × Nat)
  | [] => [(y, 1)]
  | (u, j) :: r => if y = u then (u, j + 1) :: r else (y, 1) :: (u, j) :: r
theorem rle_stepR (y : BA) (l : List BA) : rle (y :: l) = stepR y (rle l) := by
  rw [rle]
  cases rle l <;> rfl
theorem rle_rep : ∀ (l : List BA) (x : BA), l.getLast? = some x → ∃ r k, 1 ≤ k ∧ rle l = r ++ [(x, k)] ∧ rle (l ++ [x]) = r ++ [(x, k + 1)]
  | [], x, h => by cases h
  | [y], x, h => by
    cases h
    exact ⟨[], 1, Nat.le_refl _, by simp [rle], by simp [rle]⟩
  | y :: z :: t, x, h => by
    obtain ⟨r, k, hk, h1, h2⟩ := rle_rep (z :: t) x (by rw [List.getLast?_cons_cons] at h; exact h)
    have e1 := rle_stepR y (z :: t)
    have e2 : rle (y :: z :: t ++ [x]) = stepR y (rle (z :: t ++ [x])) := rle_stepR y (z :: t ++ [x])
    rw [h1] at e1
    rw [h2] at e2
    cases r with
    | nil =>
      dsimp only [List.nil_append, stepR] at e1 e2
      by_cases hy : y = x
      · rw [if_pos hy] at e1 e2
        exact ⟨[], k + 1, by omega, e1, e2⟩
      · rw [if_neg hy] at e1 e2
        exact ⟨[(y, 1)], k, hk, e1, e2⟩
    | cons p r =>
      obtain ⟨u, j⟩ := p
      dsimp only [List.cons_append, stepR] at e1 e2
      by_cases hy : y = u
      · rw [if_pos hy] at e1 e2
        exact ⟨(u, j + 1) :: r, k, hk, e1, e2⟩
      · rw [if_neg hy] at e1 e2
        exact ⟨(y, 1) :: (u, j) :: r, k, hk, e1, e2⟩
theorem uv_rec (n : Nat) : (uv n).length = if n < 128 then 1 else (uv (n / 128)).length + 1 := by
  unfold uv
  rw [Lib.uvarint]
  by_cases h : n < 128
  · rw [dif_pos h, if_pos h]; rfl
  · rw [dif_neg h, if_neg h]; rfl
theorem uv_next (n : Nat) : (uv n).length ≤ (uv (n + 1)).length ∧ (uv (n + 1)).length ≤ (uv n).length + 1 := by
  induction n using Nat.strongRecOn with
  | ind n ih =>
    have a1 := uv_rec n
    have a2 := uv_rec (n + 1)
    by_cases h : n < 128
    · rw [if_pos h] at a1
      by_cases h2 : n + 1 < 128
      · rw [if_pos h2] at a2; omega
      · rw [if_neg h2, show (n + 1) / 128 = 1 by omega, uv_rec 1, if_pos (by decide)] at a2
        omega
    · rw [if_neg h] at a1
      rw [if_neg (by omega)] at a2
      rcases (show (n + 1) / 128 = n / 128 ∨ (n + 1) / 128 = n / 128 + 1 by omega) with e | e
      · rw [e] at a2; omega
      · rw [e] at a2
        have ih2 := ih (n / 128) (by omega)
        omega
theorem runB_snoc (d : List BA) (r : List (BA × Nat)) (x : BA) (k : Nat) : runB d (r ++ [(x, k)]) = runB d r ++ (uv (idxI x d).toNat ++ uv (k - 1)) := by
  unfold runB
  rw [List.flatMap_append]
  simp
theorem rep_len {l : List BA} {x : BA} (h : l.getLast? = some x) : (encL l).length ≤ (encL (l ++ [x])).length ∧ (encL (l ++ [x])).length ≤ (encL l).length + 2 := by
  obtain ⟨r, k, hk, h1, h2⟩ := rle_rep l x h
  have hm : x ∈ l := List.mem_of_getLast? h
  have hd : dict (l ++ [x]) = dict l := by rw [dict_snoc, addD_in ((dict_mem l x).2 hm)]
  have u1 := uv_next l.length
  have u2 := uv_next (k - 1)
  rw [show k - 1 + 1 = k by omega] at u2
  unfold encL
  rw [hd, h1, h2, runB_snoc, runB_snoc, show (l ++ [x]).length = l.length + 1 by simp, show k + 1 - 1 = k by omega]
  simp only [List.length_append]
  omega
set_option maxHeartbeats 2000000 in
set_option maxRecDepth 100000 in
theorem clone_any (l : List BA) (hl : l.length ≤ 1000000) (sv : Value) (w : World) (hI : Strs w.heap.size w sv l) :
    Calls Try.prog 28 #[sv] w fun e w' => ∃ v, e = .returned v ∧ OwnS w.heap.size w' v l ∧ Below w.heap.size w w' := by
  obtain ⟨i0, hi, hz0, hz1, hz2⟩ := info_parts infoS
  obtain ⟨a, cap, rfl, hr⟩ := hI
  have q22 : ∀ (w : World) (a : Option Addr) (n c n' c' : Nat), (binOp .eql 22 (.slice a n c) (.slice none n' c')).run Try.prog w = .ok (.bool a.isNone) w := fun w a n c n' c' => Lib.run_eql_slice_nil w _ _ a n c n' c' Try.underlying22
  cases a with
  | none =>
    have h0 := hr.nil rfl
    have hle := hr.le
    obtain rfl : l = [] := List.length_eq_zero_iff.1 (by omega)
    obtain rfl : cap = 0 := h0
    have hq := fun w => q22 w none 0 0 0 0
    clear q22 hr
    show Calls Try.prog 28 #[.slice none 0 0] w _
    go_enter Try.func28, Try.ntmps28
    go_wp2
    go_ret
    exact ⟨_, rfl, OwnS.nil_ _ _, Below.refl _ _⟩
  | some ad =>
    have B1 : Hid (Below w.heap.size w (w.alloc (.cells #[] 9))) := (Below.refl _ _).alloc (Nat.le_refl _) _
    have O1 : Hid ((w.alloc (.cells #[] 9)).ownsRow w.heap.size 9 1 (.slice (some ⟨w.heap.size, 0, none⟩) 0 0) 0 []) := World.ownsRow_made w #[] 0 (Nat.le_refl _) (by unfold maxLen; omega) (by simp)
    have R1 := Lib.hid (hr.reads.alloc (Nat.le_refl _) (.cells #[] 9))
    have hq := fun w => q22 w (some ad) l.length cap 0 0
    have H1 := Lib.hid (sc_one l)
    clear q22 hr
    go_enter Try.func28, Try.ntmps28
    go_wp2_with (at_builtin; refine wpList_append_any _ rfl (.tmp 5) (.tmp 6) 22 rfl w.heap.size 9 i0 _ 1 16 Try.underlying22 hi hz0 hz1 hz2 rfl (by decide) (.slice (some ⟨w.heap.size, 0, none⟩) 0 0) 0 [] rfl O1.out w.heap.size (some ad) l.length cap (sc l) rfl R1.out H1.out (by simp only [maxLen]; omega) (by omega) (by simp) ?_; intro v5 w5 ho hg _; have HO := Lib.hid ho; have HG := Lib.hid hg; clear ho hg)
    go_ret
    refine ⟨_, rfl, ?_, B1.out.grown HG.out (by simp) (fun g e => (World.ownsRow.lt O1.out g e).1)⟩
    have := HO.out
    unfold OwnS
    simpa using this
end Go.Proofs.Ytpinmmmbmhfmiaa.Dt
