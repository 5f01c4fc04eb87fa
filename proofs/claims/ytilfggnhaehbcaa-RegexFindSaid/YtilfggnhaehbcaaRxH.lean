/- Layer 6: the program's search: states that are reached, each with the least start. -/
import Derived.Test.YtilfggnhaehbcaaRxG
set_option linter.unusedVariables false
set_option linter.unusedSimpArgs false
namespace Go.Proofs.Ytilfggnhaehbcaa.Rx
/-- What a run holds at one place of the text. -/
structure Rn where
  rch : List Bool
  lat : List (Nat × Nat)
  bs : Nat × Nat
  fd : Bool
def Rn.has (R : Rn) (q : Nat) : Prop := R.rch[q]?.getD true = true
def Rn.good (R : Rn) (i : Nat) : Prop := R.fd = true → i ≤ R.bs.1
def skips (R : Rn) (q i : Nat) : Bool := R.rch[q]?.getD true || (R.fd && decide (R.bs.1 < i))
theorem skips_no {R : Rn} {q i : Nat} : skips R q i = false ↔ ¬ R.has q ∧ R.good i := by
  unfold skips Rn.has Rn.good
  cases h1 : R.rch[q]?.getD true <;> cases h2 : R.fd <;> simp
section
variable (M : List Nd) (s : List UInt8) (p : Nat)
/-- Whether the byte at p is one of f. -/
def eats (f : UInt8 → Bool) : Bool := match s[p]? with
  | some c => f c
  | none => false
def kids (q : Nat) : List Nat := match M[q]? with
  | some (.fork l) => l
  | _ => []
def visit (R : Rn) (q i : Nat) : Rn := match M[q]? with
  | some .fin => ⟨R.rch.set q true, R.lat, (i, p), true⟩
  | some (.read f nx) => ⟨R.rch.set q true, if eats s p f = true then R.lat ++ [(nx, i)] else R.lat, R.bs, R.fd⟩
  | _ => ⟨R.rch.set q true, R.lat, R.bs, R.fd⟩
def dfs : Nat → Rn → Nat → Nat → Rn
  | 0, R, _, _ => R
  | k + 1, R, q, i => if skips R q i = true then R else (kids M q).foldl (fun R x => dfs k R x i) (visit M s p R q i)
end
variable {M : List Nd} {s : List UInt8} {p : Nat}
theorem visit_rch (R : Rn) (q i : Nat) : (visit M s p R q i).rch = R.rch.set q true := by unfold visit; split <;> rfl
theorem visit_has (R : Rn) (q i x : Nat) : (visit M s p R q i).has x ↔ R.has x ∨ x = q := by
  unfold Rn.has
  rw [visit_rch, List.getElem?_set]
  by_cases h : q = x
  · subst h
    by_cases hl : q < R.rch.length
    · simp [hl]
    · simp [hl]
  · have h' : ¬ x = q := fun e => h e.symm
    simp [h, h']
def cnt (R : Rn) : Nat := R.rch.countP (fun b => !b)
theorem count_set : ∀ (l : List Bool) (q : Nat), l[q]?.getD true = false → (l.set q true).countP (fun b => !b) + 1 = l.countP (fun b => !b)
  | [], q, h => by simp at h
  | b :: l, 0, h => by
    have hb : b = false := by simpa using h
    subst hb
    simp
  | b :: l, q + 1, h => by
    have ih := count_set l q (by simpa using h)
    rw [List.set_cons_succ, List.countP_cons, List.countP_cons]
    omega
theorem visit_cnt {R : Rn} {q i : Nat} (h : ¬ R.has q) : cnt (visit M s p R q i) + 1 = cnt R := by
  unfold cnt
  rw [visit_rch]
  exact count_set _ _ (by unfold Rn.has at h; simpa using h)
/-- Visits, one after the other. -/
inductive Vis (M : List Nd) (s : List UInt8) (p : Nat) : Rn → List (Nat × Nat) → Rn → Prop
  | nil (R : Rn) : Vis M s p R [] R
  | cons {R R' : Rn} {q i : Nat} {L : List (Nat × Nat)} (h : skips R q i = false) (t : Vis M s p (visit M s p R q i) L R') : Vis M s p R ((q, i) :: L) R'
theorem Vis.append {R R1 R2 : Rn} {A B : List (Nat × Nat)} (h : Vis M s p R A R1) (k : Vis M s p R1 B R2) : Vis M s p R (A ++ B) R2 := by
  induction h with
  | nil => exact k
  | cons h _ ih => exact .cons h (ih k)
theorem Vis.has {R R' : Rn} {L : List (Nat × Nat)} (h : Vis M s p R L R') (x : Nat) : R'.has x ↔ R.has x ∨ ∃ i, (x, i) ∈ L := by
  induction h with
  | nil => simp
  | @cons R R' q i L h _ ih =>
    rw [ih, visit_has]
    simp only [List.mem_cons, Prod.mk.injEq]
    constructor
    · rintro ((h1 | rfl) | ⟨j, h1⟩)
      · exact .inl h1
      · exact .inr ⟨i, .inl ⟨rfl, rfl⟩⟩
      · exact .inr ⟨j, .inr h1⟩
    · rintro (h1 | ⟨j, ⟨rfl, rfl⟩ | h1⟩)
      · exact .inl (.inl h1)
      · exact .inl (.inr rfl)
      · exact .inr ⟨j, h1⟩
theorem Vis.fresh {R R' : Rn} {L : List (Nat × Nat)} (h : Vis M s p R L R') {x : Nat} (hx : R.has x) (i : Nat) : (x, i) ∉ L := by
  induction h with
  | nil => simp
  | @cons R R' q j L h _ ih =>
    intro hm
    rcases List.mem_cons.1 hm with e | hm
    · cases e
      exact (skips_no.1 h).1 hx
    · exact ih ((visit_has _ _ _ _).2 (.inl hx)) hm
theorem Vis.cnt_le {R R' : Rn} {L : List (Nat × Nat)} (h : Vis M s p R L R') : cnt R' ≤ cnt R := by
  induction h with
  | nil => exact Nat.le_refl _
  | @cons R R' q i L h _ ih =>
    have := visit_cnt (M := M) (s := s) (p := p) (i := i) (skips_no.1 h).1
    omega
theorem visit_good {R : Rn} {q i j : Nat} (h : skips R q i = false) (hg : (visit M s p R q i).good j) : R.good j := by
  have hi := (skips_no.1 h).2
  unfold visit at hg
  split at hg
  · intro hf
    have h1 := hi hf
    have h2 : j ≤ i := hg rfl
    omega
  · exact hg
  · exact hg
theorem visit_good2 {R : Rn} {q i : Nat} (h : R.good i) : (visit M s p R q i).good i := by
  unfold visit
  split
  · exact fun _ => Nat.le_refl _
  · exact h
  · exact h
/-- What is no worse behind the visits was so before. -/
theorem Vis.good {R R' : Rn} {L : List (Nat × Nat)} (h : Vis M s p R L R') {j : Nat} (hg : R'.good j) : R.good j := by
  induction h with
  | nil => exact hg
  | cons h _ ih => exact visit_good h (ih hg)
theorem Vis.good2 {R R' : Rn} {L : List (Nat × Nat)} (h : Vis M s p R L R') {i : Nat} (hi : ∀ x ∈ L, x.2 = i) (hg : R.good i) : R'.good i := by
  induction h with
  | nil => exact hg
  | @cons R R' q j L h _ ih =>
    have e : j = i := hi (q, j) (by simp)
    subst e
    exact ih (fun x hx => hi x (by simp [hx])) (visit_good2 hg)
/-- What the states that read hand on. -/
def rd (M : List Nd) (s : List UInt8) (p : Nat) (x : Nat × Nat) : Option (Nat × Nat) := match M[x.1]? with
  | some (.read f nx) => if eats s p f = true then some (nx, x.2) else none
  | _ => none
theorem visit_lat (R : Rn) (q i : Nat) : (visit M s p R q i).lat = R.lat ++ (rd M s p (q, i)).toList := by
  unfold visit rd
  dsimp only
  cases h : M[q]? with
  | none => simp
  | some x =>
    cases x with
    | fin => simp
    | hole => simp
    | fork l => simp
    | read f nx =>
      dsimp only
      split <;> simp
theorem Vis.lat {R R' : Rn} {L : List (Nat × Nat)} (h : Vis M s p R L R') : R'.lat = R.lat ++ L.filterMap (rd M s p) := by
  induction h with
  | nil => simp
  | @cons R R' q i L h _ ih =>
    rw [ih, visit_lat, List.filterMap_cons]
    cases rd M s p (q, i) <;> simp
/-- The best part: that of the last state, if it was visited. -/
theorem Vis.best {R R' : Rn} {L : List (Nat × Nat)} (h : Vis M s p R L R') (h0 : ∀ q, M[q]? = some .fin ↔ q = 0) :
    (∃ j, (0, j) ∈ L ∧ R'.bs = (j, p) ∧ R'.fd = true ∧ R.good j ∧ ∀ j', (0, j') ∈ L → j' = j) ∨ ((∀ j, (0, j) ∉ L) ∧ R'.bs = R.bs ∧ R'.fd = R.fd) := by
  induction h with
  | nil => exact .inr ⟨by simp, rfl, rfl⟩
  | @cons R R' q i L h t ih =>
    have hno := skips_no.1 h
    by_cases hq : q = 0
    · subst hq
      have hfin := (h0 0).2 rfl
      have hno2 : ∀ j, (0, j) ∉ L := fun j => t.fresh ((visit_has _ _ _ _).2 (.inr rfl)) j
      have hv : (visit M s p R 0 i).bs = (i, p) ∧ (visit M s p R 0 i).fd = true := by
        unfold visit
        rw [hfin]
        exact ⟨rfl, rfl⟩
      rcases ih with ⟨j, hj, _⟩ | ⟨_, h1, h2⟩
      · exact absurd hj (hno2 j)
      · refine .inl ⟨i, by simp, h1.trans hv.1, h2.trans hv.2, hno.2, fun j' hj' => ?_⟩
        rcases List.mem_cons.1 hj' with e | e
        · cases e; rfl
        · exact absurd e (hno2 j')
    · have hv : (visit M s p R q i).bs = R.bs ∧ (visit M s p R q i).fd = R.fd := by
        unfold visit
        split
        · rename_i he
          exact absurd ((h0 q).1 he) hq
        · exact ⟨rfl, rfl⟩
        · exact ⟨rfl, rfl⟩
      rcases ih with ⟨j, hj, h1, h2, h3, h4⟩ | ⟨h1, h2, h3⟩
      · refine .inl ⟨j, by simp [hj], h1, h2, visit_good h h3, fun j' hj' => ?_⟩
        rcases List.mem_cons.1 hj' with e | e
        · cases e; exact absurd rfl hq
        · exact h4 j' e
      · refine .inr ⟨fun j hj => ?_, h2.trans hv.1, h3.trans hv.2⟩
        rcases List.mem_cons.1 hj with e | e
        · cases e; exact hq rfl
        · exact h1 j e
/-- What reaching a state leads to. -/
structure Goes (M : List Nd) (s : List UInt8) (p : Nat) (R : Rn) (Q : Nat → Prop) (i : Nat) (R' : Rn) : Prop where
  vis : ∃ L, Vis M s p R L R' ∧ (∀ x ∈ L, x.2 = i ∧ ∃ q, Q q ∧ Eps (sts M) q x.1) ∧ (∀ x ∈ L, ∀ y ∈ kids M x.1, R'.has y)
  all : R.good i → ∀ q, Q q → R'.has q
theorem kids_st {q y : Nat} (h : y ∈ kids M q) : ∃ st, (sts M)[q]? = some st ∧ st.reads = false ∧ y ∈ st.next := by
  unfold kids at h
  split at h
  · rename_i l he
    exact ⟨_, sts_at he, rfl, h⟩
  · cases h
theorem kids_of {q y : Nat} {st : St} (h : (sts M)[q]? = some st) (hr : st.reads = false) (hy : y ∈ st.next) : y ∈ kids M q := by
  unfold sts at h
  rw [List.getElem?_map] at h
  cases hm : M[q]? with
  | none => rw [hm] at h; cases h
  | some x =>
    rw [hm] at h
    cases h
    unfold kids
    rw [hm]
    cases x with
    | fin => cases hy
    | hole => cases hy
    | read f nx => cases hr
    | fork l => exact hy
theorem fold_goes {k : Nat} (ih : ∀ (R : Rn) (q i : Nat), cnt R < k → Goes M s p R (· = q) i (dfs M s p k R q i)) : ∀ (l : List Nat) (R : Rn) (i : Nat), cnt R < k → Goes M s p R (· ∈ l) i (l.foldl (fun R x => dfs M s p k R x i) R)
  | [], R, i, h => ⟨⟨[], .nil R, fun x hx => (by cases hx), fun x hx => (by cases hx)⟩, fun _ q hq => (by cases hq)⟩
  | y :: l, R, i, h => by
    rw [List.foldl_cons]
    have h1 := ih R y i h
    obtain ⟨L1, v1, e1, c1⟩ := h1.vis
    have h2 := fold_goes ih l (dfs M s p k R y i) i (Nat.lt_of_le_of_lt v1.cnt_le h)
    obtain ⟨L2, v2, e2, c2⟩ := h2.vis
    refine ⟨⟨L1 ++ L2, v1.append v2, fun x hx => ?_, fun x hx z hz => ?_⟩, fun hg q hq => ?_⟩
    · rcases List.mem_append.1 hx with hx | hx
      · obtain ⟨a, q, rfl, b⟩ := e1 x hx
        exact ⟨a, q, by simp, b⟩
      · obtain ⟨a, q, hq, b⟩ := e2 x hx
        exact ⟨a, q, by simp [hq], b⟩
    · rcases List.mem_append.1 hx with hx | hx
      · exact (v2.has z).2 (.inl (c1 x hx z hz))
      · exact c2 x hx z hz
    · rcases List.mem_cons.1 hq with rfl | hq
      · exact (v2.has q).2 (.inl (h1.all hg q rfl))
      · exact h2.all (v1.good2 (fun x hx => (e1 x hx).1) hg) q hq
theorem dfs_goes : ∀ (k : Nat) (R : Rn) (q i : Nat), cnt R < k → Goes M s p R (· = q) i (dfs M s p k R q i)
  | 0, R, q, i, h => by omega
  | k + 1, R, q, i, h => by
    rw [dfs]
    cases hs : skips R q i with
    | true =>
      rw [if_pos rfl]
      refine ⟨⟨[], .nil R, fun x hx => (by cases hx), fun x hx => (by cases hx)⟩, fun hg q' hq' => ?_⟩
      subst hq'
      apply Classical.byContradiction
      intro hn
      rw [skips_no.2 ⟨hn, hg⟩] at hs
      cases hs
    | false =>
      rw [if_neg (by decide)]
      have hno := skips_no.1 hs
      have hc := visit_cnt (M := M) (s := s) (p := p) (i := i) hno.1
      have h1 := fold_goes (fun R q i h => dfs_goes k R q i h) (kids M q) (visit M s p R q i) i (by omega)
      obtain ⟨L, v, e, c⟩ := h1.vis
      refine ⟨⟨(q, i) :: L, .cons hs v, fun x hx => ?_, fun x hx y hy => ?_⟩, fun hg q' hq' => ?_⟩
      · rcases List.mem_cons.1 hx with rfl | hx
        · exact ⟨rfl, q, rfl, .refl⟩
        · obtain ⟨a, y, hy, b⟩ := e x hx
          obtain ⟨st, k1, k2, k3⟩ := kids_st hy
          exact ⟨a, q, rfl, Eps.head k1 k2 k3 b⟩
      · rcases List.mem_cons.1 hx with rfl | hx
        · exact h1.all (visit_good2 hno.2) y hy
        · exact c x hx y hy
      · subst hq'
        exact (v.has q').2 (.inl ((visit_has _ _ _ _).2 (.inr rfl)))
end Go.Proofs.Ytilfggnhaehbcaa.Rx
