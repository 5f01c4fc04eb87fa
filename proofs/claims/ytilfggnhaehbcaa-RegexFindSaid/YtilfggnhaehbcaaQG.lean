/- Layer 6: alternative of the automaton. -/
import Derived.Test.YtilfggnhaehbcaaQF
import Derived.Test.YtilfggnhaehbcaaQD
set_option linter.unusedVariables false
set_option linter.unusedSimpArgs false
namespace Go.Proofs.Ytilfggnhaehbcaa.Rx
open Go.RowKit
open Go.Shelf
attribute [local go_sem] Oper.semAt_some
theorem NdV.kept {w w' : World} {T : Nat → Prop} {v : Value} {x : Nd} (h : NdV w T v x) (hk : ∀ a u, w.cell? a = some u → w'.cell? a = some u) : NdV w' T v x := by
  cases x with
  | fin => exact h
  | hole => exact h
  | read f nx =>
    obtain ⟨b1, b2, h1, h2, h3, h4, h5⟩ := h
    exact ⟨b1, b2, h1, h2, h3, fun j v hv => hk _ _ (h4 j v hv), hk _ _ h5⟩
  | fork l =>
    obtain ⟨b1, A, cap, h1, h2, h3, h4⟩ := h
    refine ⟨b1, A, cap, h1, h2, hk _ _ h3, fun hl => ?_⟩
    obtain ⟨g, h5, h6, h7⟩ := h4 hl
    exact ⟨g, h5, h6, fun j hj => hk _ _ (h7 j hj)⟩
theorem blk_kept {W W' : World} {row : Option Nat} {g : Nat} {t : TypeId} {l : List Value} (h : Blk W g t l) (hg : W.grownBy W' row) (hrow : ∀ r, row = some r → ∃ o : Obj, W.heap[r]? = some o ∧ o.isCells = false) : Blk W' g t l :=
  (grownBy_keeps_cells hg hrow h rfl).trans h
theorem Aut.kept {W W' : World} {row : Option Nat} {B ab : Nat} {v : Value} {T : Nat → Prop} {M : List Nd} (h : Aut W B ab v T M) (hg : W.grownBy W' row) (hrow : ∀ r, row = some r → ∃ o : Obj, W.heap[r]? = some o ∧ o.isCells = false) : Aut W' B ab v T M := by
  obtain ⟨n, hb⟩ := h.blk
  obtain ⟨xs, hr, hn⟩ := h.row
  refine ⟨⟨n, blk_kept hb hg hrow⟩, h.base, ⟨xs, ⟨hr.1, ?_⟩, hn.1, fun j hj => ?_⟩, fun n hn => ⟨(h.sub n hn).1, Nat.lt_of_lt_of_le (h.sub n hn).2.1 hg.size, (h.sub n hn).2.2⟩⟩
  · rcases hr.2 with h0 | ⟨g, cap, cur, e, h1, h2, h3⟩
    · exact .inl h0
    · exact .inr ⟨g, cap, cur, e, h1, (grownBy_keeps_cells hg hrow h2 rfl).trans h2, h3⟩
  · obtain ⟨u, h1, h2⟩ := hn.2 j hj
    exact ⟨u, h1, h2.kept (fun a u hu => cell_kept hu hg hrow)⟩
theorem Aut.apart {W : World} {B ab g : Nat} {v : Value} {T : Nat → Prop} {M : List Nd} {t : TypeId} {xs : List Value} (h : Aut W B ab v T M) (hk : Blk W g t xs) (ht : t ≠ 104) : some g ≠ v.ownBlock := by
  obtain ⟨ys, hr, _⟩ := h.row
  intro e
  rcases hr.2 with ⟨rfl, _⟩ | ⟨g', cap, cur, rfl, _, hg, _⟩
  · cases e
  · have e : some g = some g' := e
    injection e with e
    subst e
    have hk' : W.heap[g]? = _ := hk
    rw [hg] at hk'
    injection hk' with hk'
    injection hk' with _ h2 _
    exact ht h2.symm
theorem Aut.keepsOthers {W W' : World} {B ab : Nat} {v : Value} {T : Nat → Prop} {M : List Nd} (h : Aut W B ab v T M) (k : But (AutS ab v) W W') : KeepsOthers W W' := by
  refine ⟨k.size, fun i o hi ho => (k.block i (Array.getElem?_eq_some_iff.1 hi).1 (fun hs => ?_)).trans hi⟩
  rcases hs with rfl | hs
  · obtain ⟨n, hb⟩ := h.blk
    have hb : W.heap[i]? = _ := hb
    rw [hi] at hb
    injection hb with hb
    subst hb
    cases ho
  · obtain ⟨ys, hr, _⟩ := h.row
    rcases hr.2 with ⟨rfl, _⟩ | ⟨g', cap, cur, rfl, _, hg, _⟩
    · cases hs
    · have e : some i = some g' := hs
      injection e with e
      subst e
      rw [hi] at hg
      injection hg with hg
      subst hg
      cases ho
theorem cT_first' (p : Pe) (m : List Nd) (nx : Nat) : (cT p m nx).1 ≤ (cT p m nx).2.length := by
  cases p with
  | byte c r => show m.length ≤ (m ++ [_]).length; simp
  | cls f r => show m.length ≤ (m ++ [_]).length; simp
  | sub e r => show (cB e m nx).2.length ≤ ((cB e m nx).2 ++ [_]).length; simp
theorem cF_first' (p : Pe) (m : List Nd) (nx : Nat) : (cF p m nx).1 ≤ (cF p m nx).2.length := by
  rw [cF_cT]
  unfold cR
  cases p.rp with
  | one => exact cT_first' p m nx
  | opt => show _ ≤ (_ ++ [_]).length; rw [List.length_append]; exact Nat.le_add_right _ _
  | star =>
    show m.length ≤ (List.set _ _ _).length
    rw [List.length_set, cT_len, List.length_append]
    omega
  | plus =>
    show _ ≤ (List.set _ _ _).length
    rw [List.length_set]
    exact cT_first' p _ _
/-- What an alternative's states are when some places have come. -/
def fA (l : List Pe) (M : List Nd) (nx : Nat) (pre : List (Fin l.length)) : Nat × List Nd := pre.foldl (fun q j => cF l[j] q.2 q.1) (nx, M)
theorem fA_nil (l : List Pe) (M : List Nd) (nx : Nat) : fA l M nx [] = (nx, M) := rfl
theorem fA_snoc (l : List Pe) (M : List Nd) (nx : Nat) (pre : List (Fin l.length)) (x : Fin l.length) : fA l M nx (pre ++ [x]) = cF l[x] (fA l M nx pre).2 (fA l M nx pre).1 := by
  unfold fA
  rw [List.foldl_append]
  rfl
theorem cA_foldr : ∀ (l : List Pe) (M : List Nd) (nx : Nat), cA l M nx = l.foldr (fun p q => cF p q.2 q.1) (nx, M)
  | [], M, nx => by rw [cA]; rfl
  | p :: l, M, nx => by rw [cA, List.foldr_cons, cA_foldr l]
theorem fA_all (l : List Pe) (M : List Nd) (nx : Nat) : fA l M nx (bk l.length 0) = cA l M nx := by
  unfold fA
  rw [bk_zero, List.foldl_reverse, cA_foldr]
  have h : l = (List.finRange l.length).map (fun j => l[j]) := by
    apply List.ext_getElem
    · simp
    · intro i h1 h2
      simp
  conv => rhs; rw [h]
  rw [List.foldr_map]
theorem wF_le : ∀ (l : List Pe) (p : Pe), p ∈ l → wF p ≤ wA l
  | [], p, h => by cases h
  | q :: l, p, h => by
    rw [wA]
    rcases List.mem_cons.1 h with rfl | h
    · omega
    · have := wF_le l p h
      omega
theorem wF_lt : ∀ (l : List Pe) (p : Pe), p ∈ l → wF p + l.length ≤ wA l + 1
  | [], p, h => by cases h
  | q :: l, p, h => by
    rw [wA, List.length_cons]
    rcases List.mem_cons.1 h with rfl | h
    · have := wA_len l
      omega
    · have := wF_lt l p h
      have := wF_pos q
      omega
theorem fA_len (l : List Pe) (M : List Nd) (nx : Nat) (pre : List (Fin l.length)) : (fA l M nx pre).2.length ≤ M.length + pre.length * wA l ∧ (fA l M nx pre).1 ≤ max nx (fA l M nx pre).2.length := by
  suffices h : ∀ (q : List (Fin l.length)), (fA l M nx q.reverse).2.length ≤ M.length + q.length * wA l ∧ (fA l M nx q.reverse).1 ≤ max nx (fA l M nx q.reverse).2.length by
    have h := h pre.reverse
    rw [List.reverse_reverse, List.length_reverse] at h
    exact h
  intro q
  induction q with
  | nil => exact ⟨by rw [List.reverse_nil, fA_nil]; simp, by rw [List.reverse_nil, fA_nil]; exact Nat.le_max_left _ _⟩
  | cons x q ih =>
    rw [List.reverse_cons, fA_snoc]
    refine ⟨?_, Nat.le_trans (cF_first' _ _ _) (Nat.le_max_right _ _)⟩
    rw [cF_len, List.length_cons, Nat.succ_mul]
    have h1 := wF_le l l[x] (List.getElem_mem _)
    have h2 := ih.1
    omega
theorem alt_room (l : List Pe) (M : List Nd) (nx : Nat) (pre : List (Fin l.length)) (x : Fin l.length) (hp : pre.length < l.length) (hw : wA l ≤ 200) (hM : M.length + 50000 * wA l ≤ 900000000) (hnx : nx ≤ 1000000000) :
    (fA l M nx pre).2.length + 50000 * wF l[x] ≤ 900000000 ∧ (fA l M nx pre).1 ≤ 1000000000 := by
  obtain ⟨h1, h2⟩ := fA_len l M nx pre
  have h3 := wF_lt l l[x] (List.getElem_mem _)
  have h4 := wA_len l
  have h5 : pre.length * wA l ≤ (l.length - 1) * 200 := Nat.mul_le_mul (by omega) hw
  have h6 : (fA l M nx pre).2.length + 50000 * wF l[x] ≤ 900000000 := by
    rcases Nat.lt_or_ge 1 l.length with h | h
    · omega
    · have h0 : pre.length = 0 := by omega
      rw [h0] at h1
      omega
  refine ⟨h6, Nat.le_trans h2 ?_⟩
  rw [Nat.max_le]
  omega
/-- The loop's invariant. -/
structure IA (l : List Pe) (B ab : Nat) (v : Value) (T : Nat → Prop) (M : List Nd) (nx : Nat) (A : Option Addr) (cap : Nat) (w : World) (pre : List (Fin l.length)) (W : World) : Prop where
  b0 : Blk W w.heap.size 109 [.pointer (some ⟨ab, 0, none⟩)]
  b1 : Blk W (w.heap.size + 1) 3 [.int .i64 ((fA l M nx pre).1 : Nat)]
  b2 : Blk W (w.heap.size + 2) 43 [.slice A l.length cap]
  but : But (AutS ab v) w W
  aut : ∃ v' T', Aut W B ab v' T' (fA l M nx pre).2 ∧ RowTo w v v' ∧ ∀ n, T' n → T n ∨ w.heap.size + 3 ≤ n
theorem IA.kept {l : List Pe} {B ab : Nat} {v : Value} {T : Nat → Prop} {M : List Nd} {nx : Nat} {A : Option Addr} {cap : Nat} {w : World} {pre : List (Fin l.length)} {W W' : World} {row : Option Nat} (h : IA l B ab v T M nx A cap w pre W)
    (hg : W.grownBy W' row) (hrow : ∀ r, row = some r → w.heap.size + 3 ≤ r ∧ ∃ o : Obj, W.heap[r]? = some o ∧ o.isCells = false) : IA l B ab v T M nx A cap w pre W' := by
  have hr : ∀ r, row = some r → ∃ o : Obj, W.heap[r]? = some o ∧ o.isCells = false := fun r e => (hrow r e).2
  obtain ⟨v', T', ha, h1, h2⟩ := h.aut
  exact ⟨blk_kept h.b0 hg hr, blk_kept h.b1 hg hr, blk_kept h.b2 hg hr, h.but.grown hg (fun k e hk => by have := (hrow k e).1; omega), ⟨v', T', ha.kept hg hr, h1, h2⟩⟩
/-- A round of the loop. -/
theorem IA.step {l : List Pe} {B ab : Nat} {v : Value} {T : Nat → Prop} {M : List Nd} {nx : Nat} {A : Option Addr} {cap : Nat} {w : World} {pre : List (Fin l.length)} {W w2 : World} {x : Fin l.length} (hT : ∀ n, T n → n < w.heap.size) (hB : B ≤ w.heap.size) (hab : ab < w.heap.size)
    (h : IA l B ab v T M nx A cap w pre W) {v1 v2 : Value} {T1 T2 : Nat → Prop} (ha : Aut W B ab v1 T1 (fA l M nx pre).2) (hr : RowTo w v v1) (ht : ∀ n, T1 n → T n ∨ w.heap.size + 3 ≤ n)
    (a2 : Aut w2 B ab v2 T2 (cF l[x] (fA l M nx pre).2 (fA l M nx pre).1).2) (b2 : But (AutS ab v1) W w2) (r2 : RowTo W v1 v2) (t2 : ∀ n, T2 n → T1 n ∨ W.heap.size ≤ n) :
    w2.cell? ⟨w.heap.size + 1, 0, none⟩ = some (.int .i64 ((fA l M nx pre).1 : Nat)) ∧ w2.frozen? ⟨w.heap.size + 1, 0, none⟩ = false ∧
    KeepsOthers W (w2.setCell ⟨w.heap.size + 1, 0, none⟩ (.int .i64 ((cF l[x] (fA l M nx pre).2 (fA l M nx pre).1).1 : Nat))) ∧ KpB B (w.heap.size + 2) W (w2.setCell ⟨w.heap.size + 1, 0, none⟩ (.int .i64 ((cF l[x] (fA l M nx pre).2 (fA l M nx pre).1).1 : Nat))) ∧
    IA l B ab v T M nx A cap w (pre ++ [x]) (w2.setCell ⟨w.heap.size + 1, 0, none⟩ (.int .i64 ((cF l[x] (fA l M nx pre).2 (fA l M nx pre).1).1 : Nat))) := by
  have hsz : w.heap.size + 3 ≤ W.heap.size := by have := h.b2.lt; omega
  have n0 : ¬ AutS ab v1 w.heap.size := fun hs => by
    rcases hs with hs | hs
    · omega
    · exact ha.apart h.b0 (by decide) hs
  have n1 : ¬ AutS ab v1 (w.heap.size + 1) := fun hs => by
    rcases hs with hs | hs
    · omega
    · exact ha.apart h.b1 (by decide) hs
  have n2 : ¬ AutS ab v1 (w.heap.size + 2) := fun hs => by
    rcases hs with hs | hs
    · omega
    · exact ha.apart h.b2 (by decide) hs
  have c1 := h.b1.but b2 n1
  have lw : Below B W w2 := b2.below (by omega) (fun n hs => by
    rcases hs with hs | hs
    · have := ha.base
      omega
    · exact (ha.rowLt n hs.symm).1)
  have l1 : ∀ n, n ≠ w.heap.size + 1 → ∀ u, (w2.setCell ⟨w.heap.size + 1, 0, none⟩ u).heap[n]? = w2.heap[n]? := fun n hn u => Below.heap_setCell _ _ _ _ hn
  refine ⟨c1.cell 0, c1.froz 0, (ha.keepsOthers b2).trans (KeepsOthers.setCell _ _ _), ⟨lw.setCell (p := ⟨w.heap.size + 1, 0, none⟩) (by show B ≤ _ + 1; omega) _, (l1 _ (by omega) _).trans (b2.block _ (by omega) n2)⟩, ?_⟩
  have hs2 := b2.size
  refine ⟨(l1 _ (by omega) _).trans (h.b0.but b2 n0), by rw [fA_snoc]; exact c1.set 0 _, (l1 _ (by omega) _).trans (h.b2.but b2 n2), (h.but.aut b2 hr).setCell (p := ⟨w.heap.size + 1, 0, none⟩) (fun hp => by have hp : w.heap.size + 1 < w.heap.size := hp; omega) _, v2, T2, ?_, hr.trans r2 h.but.size, fun n hn => ?_⟩
  · rw [fA_snoc]
    exact a2.off (S := (· = w.heap.size + 1)) (But.setCell (S := (· = w.heap.size + 1)) (But.refl _ _) (p := ⟨w.heap.size + 1, 0, none⟩) (fun _ => rfl) _) (fun n hs hn => by
      subst hs
      refine ⟨by omega, a2.apart c1 (by decide), fun hT2 => ?_⟩
      rcases t2 _ hT2 with h3 | h3
      · rcases ht _ h3 with h4 | h4
        · have := hT _ h4
          omega
        · omega
      · omega)
  · rcases t2 n hn with h3 | h3
    · exact ht n h3
    · exact .inr (by omega)
end Go.Proofs.Ytilfggnhaehbcaa.Rx
