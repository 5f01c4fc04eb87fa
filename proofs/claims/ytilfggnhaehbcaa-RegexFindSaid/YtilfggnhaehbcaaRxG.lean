/- Layer 6: what the program's automaton reads. -/
import Derived.Test.YtilfggnhaehbcaaRxF
set_option linter.unusedVariables false
set_option linter.unusedSimpArgs false
namespace Go.Proofs.Ytilfggnhaehbcaa.Rx
/-- The states as those of the reference's machine are written. -/
def sts (M : List Nd) : List St := M.map Nd.st
theorem sts_at {M : List Nd} {i : Nat} {x : Nd} (h : M[i]? = some x) : (sts M)[i]? = some x.st := by unfold sts; rw [List.getElem?_map, h]; rfl
/-- M holds the states of m' behind those of m. -/
def HasN (M m m' : List Nd) : Prop := ∀ i, m.length ≤ i → i < m'.length → M[i]? = m'[i]?
theorem HasN.ext {M m a b : List Nd} (h : HasN M m b) (k : ExtN a b) : HasN M m a := fun i h1 h2 => (h i h1 (Nat.lt_of_lt_of_le h2 k.len)).trans (k.old i h2)
theorem HasN.front {M m a b : List Nd} (h : HasN M m b) (k : m.length ≤ a.length) : HasN M a b := fun i h1 h2 => h i (Nat.le_trans k h1) h2
theorem HasN.last {M m a : List Nd} {x : Nd} (h : HasN M m (a ++ [x])) (k : m.length ≤ a.length) : M[a.length]? = some x := by rw [h a.length k (by simp)]; simp
theorem HasN.top {M m b : List Nd} {x : Nd} (h : HasN M m (b.set m.length x)) (k : m.length < b.length) : M[m.length]? = some x := by
  rw [h m.length (Nat.le_refl _) (by rw [List.length_set]; exact k), List.getElem?_set_self k]
theorem HasN.rest {M m b : List Nd} {x y : Nd} (h : HasN M m (b.set m.length x)) : HasN M (m ++ [y]) b := fun i h1 h2 => by
  rw [List.length_append, List.length_singleton] at h1
  rw [h i (by omega) (by rw [List.length_set]; exact h2), List.getElem?_set_ne (by omega)]
/-- What the states of a part must do, in both directions. -/
structure Snds (g : List Nd → Nat → Nat × List Nd) (P : List UInt8 → Prop) : Prop where
  ext : ∀ m nx, ExtN m (g m nx).2
  snd : ∀ m nx M, HasN M m (g m nx).2 → 0 < m.length → Snd (sts M) P (g m nx).1 nx
  cpl : ∀ m nx M, HasN M m (g m nx).2 → Cpl (sts M) P (g m nx).1 nx
theorem snds_leaf {n : Re} (f : UInt8 → Bool) (h : ∀ s, Mat n s ↔ ∃ c, s = [c] ∧ f c = true) : Snds (cL f) (Mat n) := by
  refine ⟨fun m nx => ExtN.snoc _ _, fun m nx M hM h0 k s hs => ?_, fun m nx M hM a b ha hb => ?_⟩
  · obtain ⟨x, r, k', rfl, hc, rfl, h1⟩ := hs.take h0 (sts_at (hM.last (Nat.le_refl _))) rfl rfl
    exact ⟨[x], r, k', rfl, (h [x]).2 ⟨x, rfl, hc⟩, by omega, h1⟩
  · obtain ⟨c, rfl, hc⟩ := (h a).1 ha
    exact Acc.read (sts_at (hM.last (Nat.le_refl _))) rfl hc rfl hb
theorem snds_rep {g : List Nd → Nat → Nat × List Nd} {n : Re} (h : Snds g (Mat n)) : ∀ r : Rp, Snds (cR r g) (Mat (withRep n r))
  | .one => h
  | .opt => by
    refine ⟨cR_ext h.ext, fun m nx M hM h0 k s hs => ?_, fun m nx M hM a b ha hb => ?_⟩
    · have hl := (h.ext m nx).len
      obtain ⟨j, k', hj, rfl, h1⟩ := hs.go (by show 0 < (g m nx).2.length; omega) (sts_at (hM.last hl)) rfl
      have hj2 : j = (g m nx).1 ∨ j = nx := by simpa [Nd.st] using hj
      rcases hj2 with rfl | rfl
      · obtain ⟨a, b, j', rfl, ha, hjk, hb⟩ := h.snd m nx M (hM.ext (ExtN.snoc _ _)) h0 _ _ h1
        exact ⟨a, b, j', rfl, .alt (r := n) (by simp) ha, by omega, hb⟩
      · exact ⟨[], s, k', rfl, .alt (r := .cat []) (by simp) .cat_nil, by omega, h1⟩
    · have hl := (h.ext m nx).len
      have ha2 : a = [] ∨ Mat n a := by
        have h2 : Mat (.alt [.cat [], n]) a := ha
        rwa [mat_alt2, mat_nil] at h2
      rcases ha2 with rfl | ha2
      · exact Acc.eps (sts_at (hM.last hl)) rfl (by simp [Nd.st]) hb
      · exact Acc.eps (sts_at (hM.last hl)) rfl (by simp [Nd.st]) (h.cpl m nx M (hM.ext (ExtN.snoc _ _)) a b ha2 hb)
  | .star => by
    refine ⟨cR_ext h.ext, fun m nx M hM h0 => ?_, fun m nx M hM => ?_⟩
    all_goals
      have hl := (h.ext (m ++ [.hole]) m.length).len
      rw [List.length_append, List.length_singleton] at hl
    · exact star_snd h0 (sts_at (hM.top (by omega))) rfl rfl (h.snd _ _ M hM.rest (by simp))
    · exact star_cpl (sts_at (hM.top (by omega))) rfl rfl (h.cpl _ _ M hM.rest)
  | .plus => by
    refine ⟨cR_ext h.ext, fun m nx M hM h0 k s hs => ?_, fun m nx M hM a b ha hb => ?_⟩
    all_goals
      have hl := (h.ext (m ++ [.hole]) m.length).len
      rw [List.length_append, List.length_singleton] at hl
    · have hS := h.snd _ _ M hM.rest (by simp)
      obtain ⟨a, b, j, rfl, ha, hjk, hb⟩ := hS _ _ hs
      obtain ⟨a2, b2, j2, rfl, ha2, hj2, hb2⟩ := star_snd h0 (sts_at (hM.top (by omega))) rfl rfl hS _ _ hb
      exact ⟨a ++ a2, b2, j2, by rw [List.append_assoc], .plus ha ha2, by omega, hb2⟩
    · have hC := h.cpl _ _ M hM.rest
      obtain ⟨x, y, rfl, hx, hy⟩ := mat_plus.1 (show Mat (.plus n) a from ha)
      rw [List.append_assoc]
      exact hC _ _ hx (star_cpl (sts_at (hM.top (by omega))) rfl rfl hC _ _ hy hb)
/-- The states of alternatives. -/
structure SndB (e : List (List Pe)) : Prop where
  snd : ∀ m nx M, HasN M m (cB e m nx).2 → 0 < m.length → ∀ i ∈ (cB e m nx).1, ∃ r ∈ reE e, Snd (sts M) (Mat r) i nx
  cpl : ∀ m nx M, HasN M m (cB e m nx).2 → ∀ r ∈ reE e, ∃ i ∈ (cB e m nx).1, Cpl (sts M) (Mat r) i nx
theorem snds_alt {e : List (List Pe)} (h : SndB e) : Snds (cE e) (Mat (.alt (reE e))) := by
  refine ⟨cE_ext e, fun m nx M hM h0 k s hs => ?_, fun m nx M hM a b ha hb => ?_⟩
  all_goals have hl := (cB_ext e m nx).len
  · obtain ⟨j, k', hj, rfl, h1⟩ := hs.go (by show 0 < (cB e m nx).2.length; omega) (sts_at (hM.last hl)) rfl
    obtain ⟨r, hr, hS⟩ := h.snd m nx M (hM.ext (ExtN.snoc _ _)) h0 j hj
    obtain ⟨a, b, j', rfl, ha, hjk, hb⟩ := hS _ _ h1
    exact ⟨a, b, j', rfl, .alt hr ha, by omega, hb⟩
  · obtain ⟨r, hr, ha⟩ := mat_alt.1 ha
    obtain ⟨i, hi, hC⟩ := h.cpl m nx M (hM.ext (ExtN.snoc _ _)) r hr
    exact Acc.eps (sts_at (hM.last hl)) rfl hi (hC a b ha hb)
theorem cF_byte (c : UInt8) (r : Rp) : cF (.byte c r) = cR r (cL fun x => x == c) := by funext m nx; rw [cF]
theorem cF_cls (f : UInt8 → Bool) (r : Rp) : cF (.cls f r) = cR r (cL f) := by funext m nx; rw [cF]
theorem cF_subs (e : List (List Pe)) (r : Rp) : cF (.sub e r) = cR r (cE e) := by funext m nx; rw [cF_sub]
mutual
theorem cF_snds : ∀ p : Pe, Snds (cF p) (Mat (reF p))
  | .byte c r => by
    rw [cF_byte, reF]
    exact snds_rep (snds_leaf _ fun s => by
      rw [mat_byte]
      exact ⟨fun h => ⟨c, h, by simp⟩, fun ⟨x, h, k⟩ => by rw [h, show x = c by simpa using k]⟩) r
  | .cls f r => by
    rw [cF_cls, reF]
    exact snds_rep (snds_leaf f fun s => mat_cls) r
  | .sub e r => by
    rw [cF_subs, reF]
    exact snds_rep (snds_alt (cB_snds e)) r
theorem cA_snds : ∀ l : List Pe, Snds (cA l) (Mat (.cat (reA l)))
  | [] => by
    refine ⟨cA_ext [], fun m nx M hM h0 k s hs => ?_, fun m nx M hM a b ha hb => ?_⟩
    · rw [cA] at hs
      exact ⟨[], s, k, rfl, .cat_nil, Nat.le_refl _, hs⟩
    · rw [reA, mat_nil] at ha
      rw [cA]
      subst ha
      exact hb
  | p :: l => by
    have hp := cF_snds p
    have hq := cA_snds l
    refine ⟨cA_ext (p :: l), fun m nx M hM h0 k s hs => ?_, fun m nx M hM a b ha hb => ?_⟩
    all_goals have hl := (cA_ext l m nx).len
    · rw [cA] at hM hs
      obtain ⟨a, b, j, rfl, ha, hjk, hb⟩ := hp.snd _ _ M (hM.front hl) (by omega) _ _ hs
      obtain ⟨a2, b2, j2, rfl, ha2, hj2, hb2⟩ := hq.snd m nx M (hM.ext (hp.ext _ _)) h0 _ _ hb
      exact ⟨a ++ a2, b2, j2, by rw [List.append_assoc], by rw [reA]; exact .cat_cons ha ha2, by omega, hb2⟩
    · rw [cA] at hM ⊢
      rw [reA] at ha
      obtain ⟨x, y, rfl, hx, hy⟩ := mat_cons.1 ha
      rw [List.append_assoc]
      exact hp.cpl _ _ M (hM.front hl) _ _ hx (hq.cpl m nx M (hM.ext (hp.ext _ _)) _ _ hy hb)
theorem cB_snds : ∀ e : List (List Pe), SndB e
  | [] => by
    refine ⟨fun m nx M hM h0 i hi => ?_, fun m nx M hM r hr => ?_⟩
    · rw [cB] at hi; cases hi
    · rw [reE] at hr; cases hr
  | a :: e => by
    have hp := cA_snds a
    have hq := cB_snds e
    refine ⟨fun m nx M hM h0 i hi => ?_, fun m nx M hM r hr => ?_⟩
    all_goals have hl := (cA_ext a m nx).len
    · rw [cB] at hM hi
      rw [reE]
      rcases List.mem_cons.1 hi with rfl | hi
      · exact ⟨.cat (reA a), by simp, hp.snd m nx M (hM.ext (cB_ext e _ nx)) h0⟩
      · obtain ⟨q, hq2, hS⟩ := hq.snd (cA a m nx).2 nx M (hM.front hl) (by omega) i hi
        exact ⟨q, by simp [hq2], hS⟩
    · rw [cB] at hM ⊢
      rw [reE] at hr
      rcases List.mem_cons.1 hr with e1 | hr
      · exact ⟨(cA a m nx).1, by simp, by rw [e1]; exact hp.cpl m nx M (hM.ext (cB_ext e _ nx))⟩
      · obtain ⟨i, hi, hC⟩ := hq.cpl (cA a m nx).2 nx M (hM.front hl) r hr
        exact ⟨i, by simp [hi], hC⟩
end
/-- The automaton of an expression. -/
def pm (e : List (List Pe)) : List Nd := (cE e [.fin] 0).2
def ps (e : List (List Pe)) : Nat := (cE e [.fin] 0).1
theorem pm_zero (e : List (List Pe)) : (pm e)[0]? = some .fin := (cE_ext e [.fin] 0).old 0 (by simp)
theorem pm_len (e : List (List Pe)) : (pm e).length = wE e + 2 := by
  show (cE e [.fin] 0).2.length = _
  rw [cE_len]
  simp only [List.length_singleton]
  omega
theorem pm_at {e : List (List Pe)} {i : Nat} (h : i < (pm e).length) : (i = 0 ∧ (pm e)[i]? = some .fin) ∨ (0 < i ∧ ∃ x, (pm e)[i]? = some x ∧ x.ok (pm e).length) := by
  rcases Nat.eq_zero_or_pos i with rfl | h0
  · exact .inl ⟨rfl, pm_zero e⟩
  · refine .inr ⟨h0, (pm e)[i], List.getElem?_eq_getElem h, ?_⟩
    exact (cE_wh e [.fin] 0 (by simp)).whole i _ (by rw [List.length_singleton]; omega) (List.getElem?_eq_getElem h)
theorem ps_lt (e : List (List Pe)) : ps e < (pm e).length := (cE_wh e [.fin] 0 (by simp)).first
theorem pacc_zero {e : List (List Pe)} {s : List UInt8} : Acc (sts (pm e)) 0 s ↔ s = [] := by
  have h0 := sts_at (pm_zero e)
  constructor
  · rintro ⟨k, h⟩
    cases h with
    | done => rfl
    | eps hi hr hj h => rw [h0] at hi; cases hi; cases hj
    | read hi hr hc hj h => rw [h0] at hi; cases hi; cases hr
  · rintro rfl
    exact ⟨0, .done⟩
theorem pm_mat (e : List (List Pe)) (s : List UInt8) : Acc (sts (pm e)) (ps e) s ↔ Mat (.alt (reE e)) s := by
  have hS := snds_alt (cB_snds e)
  constructor
  · rintro ⟨k, h⟩
    obtain ⟨a, b, j, rfl, ha, _, hb⟩ := hS.snd [.fin] 0 (pm e) (fun _ _ _ => rfl) (by simp) k s h
    rw [pacc_zero.1 ⟨j, hb⟩, List.append_nil]
    exact ha
  · intro h
    have h1 := hS.cpl [.fin] 0 (pm e) (fun _ _ _ => rfl) s [] h (pacc_zero.2 rfl)
    rwa [List.append_nil] at h1
end Go.Proofs.Ytilfggnhaehbcaa.Rx
