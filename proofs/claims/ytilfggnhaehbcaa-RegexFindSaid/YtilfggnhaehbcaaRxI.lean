/- Layer 6: the program's search finds the leftmost longest part. -/
import Derived.Test.YtilfggnhaehbcaaRxH
set_option linter.unusedVariables false
set_option linter.unusedSimpArgs false
namespace Go.Proofs.Ytilfggnhaehbcaa.Rx
variable {M : List Nd} {s : List UInt8} {p : Nat}
/-- Positions, one after the other. -/
structure Seq (M : List Nd) (s : List UInt8) (p : Nat) (R : Rn) (P : List (Nat × Nat)) (R' : Rn) : Prop where
  vis : ∃ L, Vis M s p R L R' ∧ (∀ x ∈ L, ∃ q, (q, x.2) ∈ P ∧ Eps (sts M) q x.1) ∧ (∀ x ∈ L, ∀ y ∈ kids M x.1, R.has y ∨ ∃ j, (y, j) ∈ L ∧ j ≤ x.2) ∧ (∀ y ∈ P, R'.good y.2 → R.has y.1 ∨ ∃ j, (y.1, j) ∈ L ∧ j ≤ y.2) ∧ L.Pairwise (fun a b => a.2 ≤ b.2)
theorem fold_seq {k : Nat} : ∀ (P : List (Nat × Nat)) (R : Rn), cnt R < k → P.Pairwise (fun a b => a.2 ≤ b.2) → Seq M s p R P (P.foldl (fun R x => dfs M s p k R x.1 x.2) R)
  | [], R, h, hP => ⟨[], .nil R, fun x hx => (by cases hx), fun x hx => (by cases hx), fun x hx => (by cases hx), List.Pairwise.nil⟩
  | y :: P, R, h, hP => by
    rw [List.foldl_cons]
    rw [List.pairwise_cons] at hP
    have h1 := dfs_goes (M := M) (s := s) (p := p) k R y.1 y.2 h
    obtain ⟨L1, v1, e1, c1⟩ := h1.vis
    obtain ⟨L2, v2, e2, c2, d2, f2⟩ := (fold_seq P (dfs M s p k R y.1 y.2) (Nat.lt_of_le_of_lt v1.cnt_le h) hP.2).vis
    have hget : ∀ z, (dfs M s p k R y.1 y.2).has z → ∀ t, y.2 ≤ t → R.has z ∨ ∃ j, (z, j) ∈ L1 ++ L2 ∧ j ≤ t := fun z hz t ht => by
      rcases (v1.has z).1 hz with h2 | ⟨j, h2⟩
      · exact .inl h2
      · have := (e1 _ h2).1
        simp only at this
        exact .inr ⟨j, List.mem_append_left _ h2, by omega⟩
    have hle : ∀ x ∈ L2, y.2 ≤ x.2 := fun x hx => by
      obtain ⟨q, hq, _⟩ := e2 x hx
      exact hP.1 (q, x.2) hq
    refine ⟨L1 ++ L2, v1.append v2, fun x hx => ?_, fun x hx z hz => ?_, fun z hz hg => ?_, ?_⟩
    · rcases List.mem_append.1 hx with hx | hx
      · obtain ⟨a, q, hq, b⟩ := e1 x hx
        subst hq
        exact ⟨y.1, by rw [a]; exact List.mem_cons_self .., b⟩
      · obtain ⟨q, hq, b⟩ := e2 x hx
        exact ⟨q, List.mem_cons_of_mem _ hq, b⟩
    · rcases List.mem_append.1 hx with hx | hx
      · exact hget z (c1 x hx z hz) _ (by have := (e1 x hx).1; omega)
      · rcases c2 x hx z hz with h2 | ⟨j, h2, h3⟩
        · exact hget z h2 _ (hle x hx)
        · exact .inr ⟨j, List.mem_append_right _ h2, h3⟩
    · rcases List.mem_cons.1 hz with rfl | hz
      · exact hget _ (h1.all (v1.good (v2.good hg)) _ rfl) _ (Nat.le_refl _)
      · rcases d2 z hz hg with h2 | ⟨j, h2, h3⟩
        · exact hget _ h2 _ (hP.1 _ hz)
        · exact .inr ⟨j, List.mem_append_right _ h2, h3⟩
    · rw [List.pairwise_append]
      refine ⟨?_, f2, fun a ha b hb => ?_⟩
      · rw [List.pairwise_iff_forall_sublist]
        intro a b hab
        have ha := (e1 a (hab.subset (by simp))).1
        have hb := (e1 b (hab.subset (by simp))).1
        omega
      · have ha := (e1 a ha).1
        have := hle b hb
        omega
/-- A part of the text, with one byte more. -/
theorem sub_snoc {i : Nat} {c : UInt8} (hi : i ≤ p) (hc : s[p]? = some c) : sub s i (p + 1) = sub s i p ++ [c] := by
  unfold sub
  rw [show p + 1 - i = (p - i) + 1 by omega, List.take_add_one, List.getElem?_drop, show i + (p - i) = p by omega, hc]
  rfl
theorem sub_self (i : Nat) : sub s i i = [] := by unfold sub; rw [Nat.sub_self, List.take_zero]
/-- What the loop keeps: before the byte at p. -/
structure Inv (M : List Nd) (f0 : Nat) (s : List UInt8) (last p : Nat) (L : List (Nat × Nat)) (bs : Nat × Nat) (fd : Bool) : Prop where
  snd : ∀ x ∈ L, x.2 < p ∧ x.2 ≤ last ∧ Run (sts M) f0 (sub s x.2 p) x.1
  asc : L.Pairwise (fun a b => a.2 ≤ b.2)
  cpl : ∀ i q f nx c, i < p → i ≤ last → (fd = true → i ≤ bs.1) → Run (sts M) f0 (sub s i (p - 1)) q → M[q]? = some (.read f nx) → s[p - 1]? = some c → f c = true → ∃ i', i' ≤ i ∧ (nx, i') ∈ L
  fnd : fd = true → bs.1 ≤ bs.2 ∧ bs.2 < p ∧ bs.1 ≤ last ∧ Run (sts M) f0 (sub s bs.1 bs.2) 0
  opt : ∀ i k, i ≤ last → i ≤ k → k < p → Run (sts M) f0 (sub s i k) 0 → fd = true ∧ (bs.1 < i ∨ bs.1 = i ∧ k ≤ bs.2)
  zro : fd = false → bs = (0, 0)
theorem Inv.start (M : List Nd) (f0 : Nat) (s : List UInt8) (last : Nat) : Inv M f0 s last 0 [] (0, 0) false :=
  ⟨fun x hx => (by cases hx), List.Pairwise.nil, fun i _ _ _ _ h => by omega, fun h => (by cases h), fun i k _ _ h => by omega, fun _ => rfl⟩
/-- The positions that are reached before the byte at p. -/
def place (f0 last p : Nat) (L : List (Nat × Nat)) : List (Nat × Nat) := if p ≤ last then L ++ [(f0, p)] else L
def blank (n : Nat) (bs : Nat × Nat) (fd : Bool) : Rn := ⟨List.replicate n false, [], bs, fd⟩
def pass (M : List Nd) (s : List UInt8) (f0 last p : Nat) (L : List (Nat × Nat)) (bs : Nat × Nat) (fd : Bool) : Rn :=
  (place f0 last p L).foldl (fun R x => dfs M s p (M.length + 1) R x.1 x.2) (blank M.length bs fd)
theorem blank_cnt (n : Nat) (bs : Nat × Nat) (fd : Bool) : cnt (blank n bs fd) = n := by
  unfold cnt blank
  simp [List.countP_replicate]
theorem read_st {q : Nat} {st : St} (h : (sts M)[q]? = some st) (hr : st.reads = true) : ∃ f nx, M[q]? = some (.read f nx) ∧ st = ⟨true, f, [nx]⟩ := by
  unfold sts at h
  rw [List.getElem?_map] at h
  cases hm : M[q]? with
  | none => rw [hm] at h; cases h
  | some x =>
    rw [hm] at h
    cases h
    cases x with
    | fin => cases hr
    | hole => cases hr
    | fork l => cases hr
    | read f nx => exact ⟨f, nx, rfl, rfl⟩
/-- A round of the loop. -/
theorem Inv.step {f0 last : Nat} {L : List (Nat × Nat)} {bs : Nat × Nat} {fd : Bool} (h : Inv M f0 s last p L bs fd) (hp : p ≤ s.length)
    (h0 : ∀ q, M[q]? = some .fin ↔ q = 0) (hM : ∀ q x, M[q]? = some x → q = 0 ∨ x.ok M.length) (hf : f0 < M.length) :
    Inv M f0 s last (p + 1) (pass M s f0 last p L bs fd).lat (pass M s f0 last p L bs fd).bs (pass M s f0 last p L bs fd).fd := by
  have hmem : ∀ x, x ∈ place f0 last p L ↔ x ∈ L ∨ (p ≤ last ∧ x = (f0, p)) := fun x => by
    unfold place
    split
    · rename_i hl; simp [hl]
    · rename_i hl; simp [hl]
  obtain ⟨V, v, e, c, d, hasc⟩ := (fold_seq (M := M) (s := s) (p := p) (k := M.length + 1) (place f0 last p L) (blank M.length bs fd) (by rw [blank_cnt]; omega) (by
    unfold place
    split
    · rw [List.pairwise_append]
      refine ⟨h.asc, by simp, fun x hx y hy => ?_⟩
      simp only [List.mem_singleton] at hy
      subst hy
      exact Nat.le_of_lt (h.snd x hx).1
    · exact h.asc)).vis
  change Vis M s p (blank M.length bs fd) V (pass M s f0 last p L bs fd) at v
  change ∀ y ∈ place f0 last p L, (pass M s f0 last p L bs fd).good y.2 → _ at d
  have hR : (∃ j, (0, j) ∈ V ∧ (pass M s f0 last p L bs fd).bs = (j, p) ∧ (pass M s f0 last p L bs fd).fd = true ∧ (fd = true → j ≤ bs.1) ∧ ∀ j', (0, j') ∈ V → j' = j) ∨ ((∀ j, (0, j) ∉ V) ∧ (pass M s f0 last p L bs fd).bs = bs ∧ (pass M s f0 last p L bs fd).fd = fd) := v.best h0
  have hlat : (pass M s f0 last p L bs fd).lat = V.filterMap (rd M s p) := by rw [v.lat]; rfl
  generalize pass M s f0 last p L bs fd = R at *
  have hblank : ∀ x, x < M.length → ¬ (blank M.length bs fd).has x := fun x hx => by unfold Rn.has blank; simp [hx]
  have hsnd : ∀ x ∈ V, x.2 ≤ p ∧ x.2 ≤ last ∧ Run (sts M) f0 (sub s x.2 p) x.1 := fun x hx => by
    obtain ⟨q, hq, hE⟩ := e x hx
    rcases (hmem _).1 hq with h1 | ⟨h1, h2⟩
    · have h2 := h.snd _ h1
      exact ⟨Nat.le_of_lt h2.1, h2.2.1, Run.eps_ h2.2.2 hE⟩
    · cases h2
      refine ⟨Nat.le_refl _, h1, ?_⟩
      rw [sub_self]
      exact run_nil.2 hE
  -- a state that was visited: so are those behind it, with starts no greater
  have hkid : ∀ q y j, (q, j) ∈ V → y ∈ kids M q → ∃ j', (y, j') ∈ V ∧ j' ≤ j := fun q y j hq hy => by
    refine (c _ hq y hy).resolve_left (hblank y ?_)
    unfold kids at hy
    split at hy
    · rename_i l he
      rcases hM _ _ he with h2 | h2
      · have := (h0 q).2 h2
        rw [he] at this
        cases this
      · exact h2 y hy
    · cases hy
  have heps : ∀ q y, Eps (sts M) q y → ∀ j, (q, j) ∈ V → ∃ j', (y, j') ∈ V ∧ j' ≤ j := fun q y hE => by
    induction hE with
    | refl => exact fun j hj => ⟨j, hj, Nat.le_refl _⟩
    | step _ hi hr hl ih =>
      intro j hj
      obtain ⟨j1, h1, h2⟩ := ih j hj
      obtain ⟨j2, h3, h4⟩ := hkid _ _ _ h1 (kids_of hi hr hl)
      exact ⟨j2, h3, by omega⟩
  -- whatever can be reached here with a start that is good is reached, with a start no greater
  have hall : ∀ i q, i ≤ p → i ≤ last → R.good i → Run (sts M) f0 (sub s i p) q → ∃ j, (q, j) ∈ V ∧ j ≤ i := fun i q hi hl hg hr => by
    rcases Nat.lt_or_ge i p with hlt | hge
    · obtain ⟨p, rfl⟩ : ∃ k, p = k + 1 := ⟨p - 1, by omega⟩
      have hpl : p < s.length := by omega
      rw [sub_snoc (by omega) (List.getElem?_eq_getElem hpl), run_snoc] at hr
      obtain ⟨q', st, x, k1, k2, k3, k4, k5, k6⟩ := hr
      obtain ⟨f, nx, m1, rfl⟩ := read_st k2 k3
      have ex : nx = x := by simpa using k5
      subst ex
      obtain ⟨i', h1, h2⟩ := h.cpl i q' f nx s[p] hlt hl (v.good hg) k1 m1 (List.getElem?_eq_getElem hpl) k4
      have hgi : R.good i' := fun hf => Nat.le_trans h1 (hg hf)
      have hnx : nx < M.length := by
        rcases hM _ _ m1 with h3 | h3
        · have := (h0 q').2 h3
          rw [m1] at this
          cases this
        · exact h3
      obtain ⟨j, h3, h4⟩ := (d (nx, i') ((hmem _).2 (.inl h2)) hgi).resolve_left (hblank nx hnx)
      obtain ⟨j2, h5, h6⟩ := heps _ _ k6 j h3
      exact ⟨j2, h5, by simp only at h4; omega⟩
    · obtain rfl : i = p := by omega
      rw [sub_self, run_nil] at hr
      obtain ⟨j, h3, h4⟩ := (d (f0, i) ((hmem _).2 (.inr ⟨hl, rfl⟩)) hg).resolve_left (hblank f0 hf)
      obtain ⟨j2, h5, h6⟩ := heps _ _ hr j h3
      exact ⟨j2, h5, by simp only at h4; omega⟩
  have hrd : ∀ x, x ∈ R.lat ↔ ∃ q f, (q, x.2) ∈ V ∧ M[q]? = some (.read f x.1) ∧ eats s p f = true := fun x => by
    rw [hlat, List.mem_filterMap]
    constructor
    · rintro ⟨y, hy, he⟩
      unfold rd at he
      split at he
      · rename_i f nx hq
        split at he
        · rename_i hb
          cases he
          exact ⟨y.1, f, hy, hq, hb⟩
        · cases he
      · cases he
    · rintro ⟨q, f, h1, h2, h3⟩
      refine ⟨(q, x.2), h1, ?_⟩
      unfold rd
      simp only [h2, h3, if_true]
  have heat : ∀ f, eats s p f = true ↔ ∃ c, s[p]? = some c ∧ f c = true := fun f => by
    unfold eats
    cases s[p]? <;> simp
  refine ⟨fun x hx => ?_, ?_, fun i q f nx b hi hl hg hr hq hb hfb => ?_, fun hf1 => ?_, fun i k hl hik hk hr => ?_, fun hf0 => ?_⟩
  · obtain ⟨q, f, h1, h2, h3⟩ := (hrd x).1 hx
    obtain ⟨b, hb, hfb⟩ := (heat f).1 h3
    have h4 := hsnd _ h1
    refine ⟨by have := h4.1; simp only at this; omega, h4.2.1, ?_⟩
    rw [sub_snoc h4.1 hb]
    exact .read h4.2.2 (sts_at h2) rfl hfb rfl
  · rw [hlat]
    refine List.Pairwise.filterMap _ (fun a b hab a' ha' b' hb' => ?_) hasc
    have hst : ∀ {y : Nat × Nat} {z : Nat × Nat}, rd M s p y = some z → z.2 = y.2 := fun {y z} he => by
      unfold rd at he
      split at he
      · split at he
        · cases he; rfl
        · cases he
      · cases he
    rw [hst ha', hst hb']
    exact hab
  · rw [Nat.add_sub_cancel] at hr hb
    obtain ⟨j, h1, h2⟩ := hall i q (by omega) hl hg hr
    exact ⟨j, h2, (hrd _).2 ⟨q, f, h1, hq, (heat f).2 ⟨b, hb, hfb⟩⟩⟩
  · rcases hR with ⟨j, hj, h1, h2, h3, h4⟩ | ⟨h1, h2, h3⟩
    · rw [h1]
      have h5 := hsnd _ hj
      exact ⟨h5.1, Nat.lt_succ_self _, h5.2.1, h5.2.2⟩
    · rw [h2]
      have h5 := h.fnd (by rw [← h3]; exact hf1)
      exact ⟨h5.1, by omega, h5.2.2⟩
  · have hnew : R.fd = true → R.bs = bs ∨ R.bs.2 = p ∧ (fd = true → R.bs.1 ≤ bs.1) := fun _ => by
      rcases hR with ⟨j, hj, h1, h2, h3, h4⟩ | ⟨h1, h2, h3⟩
      · exact .inr ⟨by rw [h1], fun hfd => by rw [h1]; exact h3 hfd⟩
      · exact .inl h2
    rcases Nat.lt_or_ge k p with hlt | hge
    · obtain ⟨h1, h2⟩ := h.opt i k hl hik hlt hr
      have hfd : R.fd = true := by
        rcases hR with ⟨j, hj, h3, h4, _⟩ | ⟨h3, h4, h5⟩
        · exact h4
        · rw [h5]; exact h1
      refine ⟨hfd, ?_⟩
      rcases hnew hfd with h3 | ⟨h3, h4⟩
      · rw [h3]; exact h2
      · have := h4 h1
        omega
    · obtain rfl : k = p := by omega
      by_cases hg : R.good i
      · obtain ⟨j, h1, h2⟩ := hall i 0 hik hl hg hr
        rcases hR with ⟨j', hj, h3, h4, h5, h6⟩ | ⟨h3, _⟩
        · have := h6 j h1
          subst this
          have h7 := hg h4
          rw [h3] at h7 ⊢
          exact ⟨h4, by simp only at h7 ⊢; omega⟩
        · exact absurd h1 (h3 j)
      · have hfd : R.fd = true := by
          apply Classical.byContradiction
          exact fun hn => hg fun hf => absurd hf hn
        exact ⟨hfd, .inl (by
          apply Classical.byContradiction
          exact fun hn => hg fun _ => by omega)⟩
  · rcases hR with ⟨j, hj, h3, h4, _⟩ | ⟨h3, h4, h5⟩
    · rw [h4] at hf0; cases hf0
    · rw [h4]
      exact h.zro (by rw [← h5]; exact hf0)
/-- What a search returns. -/
structure Res (r : Re) (s : List UInt8) (last : Nat) (bs : Nat × Nat) (fd : Bool) : Prop where
  fnd : fd = true → bs.1 ≤ bs.2 ∧ bs.2 ≤ s.length ∧ bs.1 ≤ last ∧ Mat r (sub s bs.1 bs.2)
  opt : ∀ i k, i ≤ last → i ≤ k → k ≤ s.length → Mat r (sub s i k) → fd = true ∧ (bs.1 < i ∨ bs.1 = i ∧ k ≤ bs.2)
  zro : fd = false → bs = (0, 0)
/-- The loop ends: no better part can be found. -/
theorem Inv.end_ {e : List (List Pe)} {last p : Nat} {L : List (Nat × Nat)} {bs : Nat × Nat} {fd : Bool} (h : Inv (pm e) (ps e) s last p L bs fd) (hp : p ≤ s.length + 1)
    (hx : p = s.length + 1 ∨ (L = [] ∧ (fd = true ∨ last < p))) : Res (.alt (reE e)) s last bs fd := by
  refine ⟨fun hf => ?_, fun i k hl hik hk hm => ?_, h.zro⟩
  · have h1 := h.fnd hf
    exact ⟨h1.1, by omega, h1.2.2.1, (pm_mat e _).1 (acc_run.2 h1.2.2.2)⟩
  · have hr := acc_run.1 ((pm_mat e _).2 hm)
    rcases Nat.lt_or_ge k p with hlt | hge
    · exact h.opt i k hl hik hlt hr
    · rcases hx with rfl | ⟨rfl, hx⟩
      · omega
      · rcases Nat.lt_or_ge i p with hip | hip
        · -- the way to the end passes the place before p
          have hsplit : sub s i k = sub s i p ++ sub s p k := by
            unfold sub
            rw [show k - i = (p - i) + (k - p) by omega, List.take_add, List.drop_drop, show i + (p - i) = p by omega]
          have hacc : ∃ q f nx c, Run (sts (pm e)) (ps e) (sub s i (p - 1)) q ∧ (pm e)[q]? = some (.read f nx) ∧ s[p - 1]? = some c ∧ f c = true := by
            obtain ⟨p, rfl⟩ : ∃ n, p = n + 1 := ⟨p - 1, by omega⟩
            have hpl : p < s.length := by omega
            rw [hsplit] at hr
            have hpre : ∀ (t : List UInt8) (z : Nat), Run (sts (pm e)) (ps e) (sub s i (p + 1) ++ t.reverse) z → ∃ y, Run (sts (pm e)) (ps e) (sub s i (p + 1)) y := by
              intro t
              induction t with
              | nil => intro z hz; rw [List.reverse_nil, List.append_nil] at hz; exact ⟨z, hz⟩
              | cons c t ih =>
                intro z hz
                rw [List.reverse_cons, ← List.append_assoc, run_snoc] at hz
                obtain ⟨j, _, _, h1, _⟩ := hz
                exact ih j h1
            rw [← List.reverse_reverse (sub s (p + 1) k)] at hr
            obtain ⟨y, hy⟩ := hpre _ _ hr
            rw [sub_snoc (by omega) (List.getElem?_eq_getElem hpl), run_snoc] at hy
            obtain ⟨q', st, x, k1, k2, k3, k4, k5, k6⟩ := hy
            obtain ⟨f, nx, m1, rfl⟩ := read_st k2 k3
            exact ⟨q', f, nx, s[p], k1, m1, List.getElem?_eq_getElem hpl, k4⟩
          obtain ⟨q, f, nx, c, h1, h2, h3, h4⟩ := hacc
          by_cases hg : fd = true → i ≤ bs.1
          · obtain ⟨i', _, h5⟩ := h.cpl i q f nx c hip hl hg h1 h2 h3 h4
            cases h5
          · have hfd : fd = true := by
              apply Classical.byContradiction
              exact fun hn => hg fun hf => absurd hf hn
            exact ⟨hfd, .inl (by
              apply Classical.byContradiction
              exact fun hn => hg fun _ => by omega)⟩
        · rcases hx with hx | hx
          · have := h.fnd hx
            exact ⟨hx, .inl (by omega)⟩
          · omega
theorem pm_step {e : List (List Pe)} {last p : Nat} {L : List (Nat × Nat)} {bs : Nat × Nat} {fd : Bool} (h : Inv (pm e) (ps e) s last p L bs fd) (hp : p ≤ s.length) :
    Inv (pm e) (ps e) s last (p + 1) (pass (pm e) s (ps e) last p L bs fd).lat (pass (pm e) s (ps e) last p L bs fd).bs (pass (pm e) s (ps e) last p L bs fd).fd := by
  refine h.step hp (fun q => ⟨fun hq => ?_, fun hq => (by rw [hq]; exact pm_zero e)⟩) (fun q x hx => ?_) (ps_lt e)
  · rcases pm_at (List.getElem?_eq_some_iff.1 hq).1 with h1 | ⟨h1, x, h2, h3⟩
    · exact h1.1
    · rw [hq] at h2
      cases h2
      exact h3.elim
  · rcases pm_at (List.getElem?_eq_some_iff.1 hx).1 with h1 | ⟨h1, y, h2, h3⟩
    · exact .inl h1.1
    · rw [hx] at h2
      cases h2
      exact .inr h3
/-- What the whole text's match comes to. -/
theorem Res.whole {r : Re} {s : List UInt8} {bs : Nat × Nat} {fd : Bool} (h : Res r s 0 bs fd) : (fd = true ∧ bs.2 = s.length) ↔ Mat r s := by
  have hs : sub s 0 s.length = s := by unfold sub; simp
  constructor
  · rintro ⟨h1, h2⟩
    have h3 := h.fnd h1
    have h4 : bs.1 = 0 := by omega
    have h5 := h3.2.2.2
    rwa [h4, h2, hs] at h5
  · intro hm
    have h1 := h.opt 0 s.length (Nat.le_refl _) (Nat.zero_le _) (Nat.le_refl _) (by rw [hs]; exact hm)
    exact ⟨h1.1, by have := (h.fnd h1.1).2.1; omega⟩
theorem Res.found {r : Re} {s : List UInt8} {bs : Nat × Nat} (h : Res r s s.length bs true) : Found r s bs.1 bs.2 := by
  have h1 := h.fnd rfl
  refine ⟨h1.1, h1.2.1, h1.2.2.2, fun i' k' hi hik hk hm => ?_, fun k' hk hkl hm => ?_⟩
  · have := (h.opt i' k' (by omega) hik hk hm).2
    omega
  · have := (h.opt bs.1 k' (by omega) (by omega) hkl hm).2
    omega
theorem Res.missing {r : Re} {s : List UInt8} {bs : Nat × Nat} (h : Res r s s.length bs false) : Missing r s := fun i k hik hk hm => by
  have := (h.opt i k (by omega) hik hk hm).1
  cases this
end Go.Proofs.Ytilfggnhaehbcaa.Rx
