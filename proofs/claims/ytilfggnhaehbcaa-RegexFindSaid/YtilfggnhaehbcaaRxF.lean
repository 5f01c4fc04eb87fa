/- Layer 6: the program's expressions and its automaton, of expressions as lists. -/
import Derived.Test.YtilfggnhaehbcaaRxE
set_option linter.unusedVariables false
set_option linter.unusedSimpArgs false
namespace Go.Proofs.Ytilfggnhaehbcaa.Rx
/-- What is behind an atom. -/
inductive Rp where
  | one | star | plus | opt
/-- The byte. -/
def Rp.b : Rp → UInt8
  | .one => 0
  | .star => 42
  | .plus => 43
  | .opt => 63
/-- A factor: a byte, a set, an expression in parentheses. -/
inductive Pe where
  | byte (c : UInt8) (r : Rp)
  | cls (f : UInt8 → Bool) (r : Rp)
  | sub (e : List (List Pe)) (r : Rp)
def withRep (n : Re) : Rp → Re
  | .one => n
  | .star => .star n
  | .plus => .plus n
  | .opt => .alt [.cat [], n]
mutual
def reF : Pe → Re
  | .byte c r => withRep (.byte c) r
  | .cls f r => withRep (.cls f) r
  | .sub e r => withRep (.alt (reE e)) r
def reA : List Pe → List Re
  | [] => []
  | p :: l => reF p :: reA l
def reE : List (List Pe) → List Re
  | [] => []
  | a :: e => .cat (reA a) :: reE e
end
theorem reA_append : ∀ a b : List Pe, reA (a ++ b) = reA a ++ reA b
  | [], b => by rw [List.nil_append, reA, List.nil_append]
  | p :: l, b => by rw [List.cons_append, reA, reA, reA_append l b, List.cons_append]
theorem reE_append : ∀ a b : List (List Pe), reE (a ++ b) = reE a ++ reE b
  | [], b => by rw [List.nil_append, reE, List.nil_append]
  | p :: l, b => by rw [List.cons_append, reE, reE, reE_append l b, List.cons_append]
theorem reA_one (p : Pe) : reA [p] = [reF p] := by rw [reA, reA]
theorem reE_one (a : List Pe) : reE [a] = [.cat (reA a)] := by rw [reE, reE]
/-- Without what is behind it. -/
def Pe.bare : Pe → Pe
  | .byte c _ => .byte c .one
  | .cls f _ => .cls f .one
  | .sub e _ => .sub e .one
def Pe.with : Pe → Rp → Pe
  | .byte c _, r => .byte c r
  | .cls f _, r => .cls f r
  | .sub e _, r => .sub e r
def Pe.rp : Pe → Rp
  | .byte _ r => r
  | .cls _ r => r
  | .sub _ r => r
theorem reF_with (p : Pe) (h : p.rp = .one) (r : Rp) : reF (p.with r) = withRep (reF p) r := by
  cases p <;> simp only [Pe.rp] at h <;> subst h <;> simp only [Pe.with, reF, withRep]
/-- How many states a factor has. -/
def wR : Rp → Nat
  | .one => 0
  | _ => 1
mutual
def wF : Pe → Nat
  | .byte _ r => 1 + wR r
  | .cls _ r => 1 + wR r
  | .sub e r => 1 + wE e + wR r
def wA : List Pe → Nat
  | [] => 0
  | p :: l => wF p + wA l
def wE : List (List Pe) → Nat
  | [] => 0
  | a :: e => wA a + wE e
end
theorem wA_append : ∀ a b : List Pe, wA (a ++ b) = wA a + wA b
  | [], b => by rw [List.nil_append, wA]; omega
  | p :: l, b => by rw [List.cons_append, wA, wA, wA_append l b]; omega
theorem wE_append : ∀ a b : List (List Pe), wE (a ++ b) = wE a + wE b
  | [], b => by rw [List.nil_append, wE]; omega
  | p :: l, b => by rw [List.cons_append, wE, wE, wE_append l b]; omega
theorem wA_one (p : Pe) : wA [p] = wF p := by rw [wA, wA]; omega
theorem wE_one (a : List Pe) : wE [a] = wA a := by rw [wE, wE]; omega
theorem wF_pos (p : Pe) : 1 ≤ wF p := by cases p <;> rw [wF] <;> omega
theorem wA_len : ∀ l : List Pe, l.length ≤ wA l
  | [] => by simp
  | p :: l => by
    have h1 := wA_len l
    have h2 := wF_pos p
    rw [wA, List.length_cons]
    omega
/-- A state of the automaton. -/
inductive Nd where
  | fin
  | hole
  | read (f : UInt8 → Bool) (nx : Nat)
  | fork (l : List Nat)
def Nd.st : Nd → St
  | .fin => ⟨false, none_, []⟩
  | .hole => ⟨false, none_, []⟩
  | .read f nx => ⟨true, f, [nx]⟩
  | .fork l => ⟨false, none_, l⟩
def cR (r : Rp) (at_ : List Nd → Nat → Nat × List Nd) (m : List Nd) (nx : Nat) : Nat × List Nd :=
  match r with
  | .one => at_ m nx
  | .opt => ((at_ m nx).2.length, (at_ m nx).2 ++ [.fork [(at_ m nx).1, nx]])
  | .star => (m.length, (at_ (m ++ [.hole]) m.length).2.set m.length (.fork [(at_ (m ++ [.hole]) m.length).1, nx]))
  | .plus => ((at_ (m ++ [.hole]) m.length).1, (at_ (m ++ [.hole]) m.length).2.set m.length (.fork [(at_ (m ++ [.hole]) m.length).1, nx]))
def cL (f : UInt8 → Bool) (m : List Nd) (nx : Nat) : Nat × List Nd := (m.length, m ++ [.read f nx])
mutual
/-- The states of a factor behind m; nx comes after it. -/
def cF : Pe → List Nd → Nat → Nat × List Nd
  | .byte c r, m, nx => cR r (cL fun x => x == c) m nx
  | .cls f r, m, nx => cR r (cL f) m nx
  | .sub e r, m, nx => cR r (fun m nx => ((cB e m nx).2.length, (cB e m nx).2 ++ [.fork (cB e m nx).1])) m nx
def cA : List Pe → List Nd → Nat → Nat × List Nd
  | [], m, nx => (nx, m)
  | p :: l, m, nx => cF p (cA l m nx).2 (cA l m nx).1
def cB : List (List Pe) → List Nd → Nat → List Nat × List Nd
  | [], m, nx => ([], m)
  | a :: e, m, nx => ((cA a m nx).1 :: (cB e (cA a m nx).2 nx).1, (cB e (cA a m nx).2 nx).2)
end
def cE (e : List (List Pe)) (m : List Nd) (nx : Nat) : Nat × List Nd := ((cB e m nx).2.length, (cB e m nx).2 ++ [.fork (cB e m nx).1])
theorem cF_sub (e : List (List Pe)) (r : Rp) (m : List Nd) (nx : Nat) : cF (.sub e r) m nx = cR r (cE e) m nx := by rw [cF]; rfl
theorem cB_snoc : ∀ (e : List (List Pe)) (a : List Pe) (m : List Nd) (nx : Nat), cB (e ++ [a]) m nx = ((cB e m nx).1 ++ [(cA a (cB e m nx).2 nx).1], (cA a (cB e m nx).2 nx).2)
  | [], a, m, nx => by rw [List.nil_append, cB, cB, cB]; rfl
  | x :: e, a, m, nx => by rw [List.cons_append, cB, cB_snoc e a, cB]; rfl
/-- m' holds m and more. -/
structure ExtN (m m' : List Nd) : Prop where
  len : m.length ≤ m'.length
  old : ∀ i, i < m.length → m'[i]? = m[i]?
theorem ExtN.refl (m : List Nd) : ExtN m m := ⟨Nat.le_refl _, fun _ _ => rfl⟩
theorem ExtN.trans {a b c : List Nd} (h : ExtN a b) (k : ExtN b c) : ExtN a c := ⟨Nat.le_trans h.len k.len, fun i hi => (k.old i (Nat.lt_of_lt_of_le hi h.len)).trans (h.old i hi)⟩
theorem ExtN.snoc (m : List Nd) (x : Nd) : ExtN m (m ++ [x]) := ⟨by simp, fun i hi => List.getElem?_append_left hi⟩
theorem ExtN.set {m m' : List Nd} (h : ExtN m m') (x : Nd) : ExtN m (m'.set m.length x) := ⟨by rw [List.length_set]; exact h.len, fun i hi => by rw [List.getElem?_set_ne (by omega)]; exact h.old i hi⟩
theorem cR_ext {r : Rp} {g : List Nd → Nat → Nat × List Nd} (h : ∀ m nx, ExtN m (g m nx).2) (m : List Nd) (nx : Nat) : ExtN m (cR r g m nx).2 := by
  cases r with
  | one => exact h m nx
  | opt => exact (h m nx).trans (ExtN.snoc _ _)
  | star => exact ((ExtN.snoc m _).trans (h _ _)).set _
  | plus => exact ((ExtN.snoc m _).trans (h _ _)).set _
mutual
theorem cF_ext : ∀ (p : Pe) (m : List Nd) (nx : Nat), ExtN m (cF p m nx).2
  | .byte c r, m, nx => by rw [cF]; exact cR_ext (fun m nx => ExtN.snoc _ _) m nx
  | .cls f r, m, nx => by rw [cF]; exact cR_ext (fun m nx => ExtN.snoc _ _) m nx
  | .sub e r, m, nx => by rw [cF]; exact cR_ext (fun m nx => (cB_ext e m nx).trans (ExtN.snoc _ _)) m nx
theorem cA_ext : ∀ (l : List Pe) (m : List Nd) (nx : Nat), ExtN m (cA l m nx).2
  | [], m, nx => by rw [cA]; exact ExtN.refl m
  | p :: l, m, nx => by rw [cA]; exact (cA_ext l m nx).trans (cF_ext p _ _)
theorem cB_ext : ∀ (e : List (List Pe)) (m : List Nd) (nx : Nat), ExtN m (cB e m nx).2
  | [], m, nx => by rw [cB]; exact ExtN.refl m
  | a :: e, m, nx => by rw [cB]; exact (cA_ext a m nx).trans (cB_ext e _ nx)
end
theorem cE_ext (e : List (List Pe)) (m : List Nd) (nx : Nat) : ExtN m (cE e m nx).2 := (cB_ext e m nx).trans (ExtN.snoc _ _)
/-- How many states. -/
theorem cR_len {r : Rp} {g : List Nd → Nat → Nat × List Nd} {n : Nat} (h : ∀ m nx, (g m nx).2.length = m.length + n) (m : List Nd) (nx : Nat) : (cR r g m nx).2.length = m.length + n + wR r := by
  cases r with
  | one => exact h m nx
  | opt => show ((g m nx).2 ++ [_]).length = _; rw [List.length_append, h]; rfl
  | star => show ((g _ _).2.set _ _).length = _; rw [List.length_set, h, List.length_append]; simp only [List.length_singleton, wR]; omega
  | plus => show ((g _ _).2.set _ _).length = _; rw [List.length_set, h, List.length_append]; simp only [List.length_singleton, wR]; omega
mutual
theorem cF_len : ∀ (p : Pe) (m : List Nd) (nx : Nat), (cF p m nx).2.length = m.length + wF p
  | .byte c r, m, nx => by rw [cF, cR_len (n := 1) (fun m nx => by simp [cL]), wF]; omega
  | .cls f r, m, nx => by rw [cF, cR_len (n := 1) (fun m nx => by simp [cL]), wF]; omega
  | .sub e r, m, nx => by rw [cF, cR_len (n := 1 + wE e) (fun m nx => by rw [List.length_append, cB_len e m nx]; simp only [List.length_singleton]; omega), wF]; omega
theorem cA_len : ∀ (l : List Pe) (m : List Nd) (nx : Nat), (cA l m nx).2.length = m.length + wA l
  | [], m, nx => by rw [cA, wA]; rfl
  | p :: l, m, nx => by rw [cA, cF_len p, cA_len l, wA]; omega
theorem cB_len : ∀ (e : List (List Pe)) (m : List Nd) (nx : Nat), (cB e m nx).2.length = m.length + wE e
  | [], m, nx => by rw [cB, wE]; rfl
  | a :: e, m, nx => by rw [cB]; show (cB e (cA a m nx).2 nx).2.length = _; rw [cB_len e, cA_len a, wE]; omega
end
theorem cE_len (e : List (List Pe)) (m : List Nd) (nx : Nat) : (cE e m nx).2.length = m.length + wE e + 1 := by
  show ((cB e m nx).2 ++ [_]).length = _
  rw [List.length_append, cB_len]
  rfl
theorem cB_count : ∀ (e : List (List Pe)) (m : List Nd) (nx : Nat), (cB e m nx).1.length = e.length
  | [], m, nx => by rw [cB]; rfl
  | a :: e, m, nx => by rw [cB]; show (_ :: _).length = _; rw [List.length_cons, cB_count e, List.length_cons]
/-- A state that is whole; what follows it lies below n. -/
def Nd.ok (n : Nat) : Nd → Prop
  | .fin => False
  | .hole => False
  | .read _ nx => nx < n
  | .fork l => ∀ x ∈ l, x < n
theorem Nd.ok.more {n n' : Nat} {x : Nd} (h : x.ok n) (k : n ≤ n') : x.ok n' := by
  cases x with
  | fin => exact h
  | hole => exact h
  | read f nx => exact Nat.lt_of_lt_of_le h k
  | fork l => exact fun y hy => Nat.lt_of_lt_of_le (h y hy) k
/-- The states behind m are whole, and the first one is there. -/
structure Wh (m : List Nd) (q : Nat × List Nd) : Prop where
  first : q.1 < q.2.length
  whole : ∀ i x, m.length ≤ i → q.2[i]? = some x → x.ok q.2.length
theorem cL_wh (f : UInt8 → Bool) (m : List Nd) (nx : Nat) (h : nx < m.length) : Wh m (cL f m nx) := by
  refine ⟨by simp [cL], fun i x hi hx => ?_⟩
  have h2 : (m ++ [Nd.read f nx])[i]? = some x := hx
  rw [List.getElem?_append_right hi] at h2
  have h3 : i - m.length = 0 := by
    have := (List.getElem?_eq_some_iff.1 h2).1
    simp at this
    omega
  rw [h3] at h2
  cases h2
  show nx < (m ++ [Nd.read f nx]).length
  rw [List.length_append]
  omega
theorem Wh.snoc {m : List Nd} {q : Nat × List Nd} (h : ∀ i x, m.length ≤ i → q.2[i]? = some x → x.ok q.2.length) {l : List Nat} (hl : ∀ y ∈ l, y < q.2.length) : Wh m (q.2.length, q.2 ++ [.fork l]) := by
  refine ⟨by simp, fun i x hi hx => ?_⟩
  show x.ok (q.2 ++ [Nd.fork l]).length
  rw [List.length_append]
  rcases Nat.lt_or_ge i q.2.length with hlt | hge
  · have h2 : (q.2 ++ [Nd.fork l])[i]? = some x := hx
    rw [List.getElem?_append_left hlt] at h2
    exact (h i x hi h2).more (by omega)
  · have h2 : (q.2 ++ [Nd.fork l])[i]? = some x := hx
    rw [List.getElem?_append_right hge] at h2
    have h3 : i - q.2.length = 0 := by
      have := (List.getElem?_eq_some_iff.1 h2).1
      simp at this
      omega
    rw [h3] at h2
    cases h2
    exact fun y hy => Nat.lt_of_lt_of_le (hl y hy) (by omega)
theorem cR_wh {r : Rp} {g : List Nd → Nat → Nat × List Nd} (he : ∀ m nx, ExtN m (g m nx).2) (h : ∀ m nx, nx < m.length → Wh m (g m nx)) (m : List Nd) (nx : Nat) (hn : nx < m.length) : Wh m (cR r g m nx) := by
  have hstar : ∀ k, k < (g (m ++ [.hole]) m.length).2.length → Wh m (k, (g (m ++ [.hole]) m.length).2.set m.length (.fork [(g (m ++ [.hole]) m.length).1, nx])) := fun k hk => by
    have h0 := h (m ++ [.hole]) m.length (by simp)
    have h1 := (he (m ++ [.hole]) m.length).len
    rw [List.length_append, List.length_singleton] at h1
    refine ⟨by rw [List.length_set]; exact hk, fun i x hi hx => ?_⟩
    simp only [List.length_set] at hx ⊢
    rw [List.getElem?_set] at hx
    split at hx
    · split at hx
      · cases hx
        intro y hy
        simp only [List.mem_cons, List.not_mem_nil, or_false] at hy
        rcases hy with rfl | rfl
        · exact h0.first
        · omega
      · cases hx
    · rename_i hne
      exact h0.whole i x (by rw [List.length_append, List.length_singleton]; omega) hx
  cases r with
  | one => exact h m nx hn
  | opt =>
    have h0 := h m nx hn
    refine Wh.snoc h0.whole (fun y hy => ?_)
    simp only [List.mem_cons, List.not_mem_nil, or_false] at hy
    have := (he m nx).len
    rcases hy with rfl | rfl
    · exact h0.first
    · omega
  | star =>
    have h1 := (he (m ++ [.hole]) m.length).len
    rw [List.length_append, List.length_singleton] at h1
    exact hstar m.length (by omega)
  | plus => exact hstar _ (h (m ++ [.hole]) m.length (by simp)).first
mutual
theorem cF_wh : ∀ (p : Pe) (m : List Nd) (nx : Nat), nx < m.length → Wh m (cF p m nx)
  | .byte c r, m, nx, h => by rw [cF]; exact cR_wh (fun m nx => ExtN.snoc _ _) (cL_wh _) m nx h
  | .cls f r, m, nx, h => by rw [cF]; exact cR_wh (fun m nx => ExtN.snoc _ _) (cL_wh _) m nx h
  | .sub e r, m, nx, h => by
    rw [cF]
    exact cR_wh (fun m nx => cE_ext e m nx) (fun m nx h => Wh.snoc (q := (0, (cB e m nx).2)) (cB_wh e m nx h).2 (cB_wh e m nx h).1) m nx h
theorem cA_wh : ∀ (l : List Pe) (m : List Nd) (nx : Nat), nx < m.length → Wh m (cA l m nx)
  | [], m, nx, h => by
    rw [cA]
    exact ⟨h, fun i x hi hx => absurd (List.getElem?_eq_some_iff.1 hx).1 (by show ¬ i < m.length; omega)⟩
  | p :: l, m, nx, h => by
    rw [cA]
    have h1 := cA_wh l m nx h
    have h2 := cF_wh p _ _ h1.first
    have h3 := cF_ext p (cA l m nx).2 (cA l m nx).1
    refine ⟨h2.first, fun i x hi hx => ?_⟩
    rcases Nat.lt_or_ge i (cA l m nx).2.length with hlt | hge
    · rw [h3.old i hlt] at hx
      exact (h1.whole i x hi hx).more h3.len
    · exact h2.whole i x hge hx
theorem cB_wh : ∀ (e : List (List Pe)) (m : List Nd) (nx : Nat), nx < m.length → (∀ y ∈ (cB e m nx).1, y < (cB e m nx).2.length) ∧ (∀ i x, m.length ≤ i → (cB e m nx).2[i]? = some x → x.ok (cB e m nx).2.length)
  | [], m, nx, h => by
    rw [cB]
    exact ⟨fun y hy => (by cases hy), fun i x hi hx => absurd (List.getElem?_eq_some_iff.1 hx).1 (by show ¬ i < m.length; omega)⟩
  | a :: e, m, nx, h => by
    rw [cB]
    have h1 := cA_wh a m nx h
    have h0 := (cA_ext a m nx).len
    have h2 := cB_wh e (cA a m nx).2 nx (by omega)
    have h3 := cB_ext e (cA a m nx).2 nx
    refine ⟨fun y hy => ?_, fun i x hi hx => ?_⟩
    · rcases List.mem_cons.1 hy with rfl | hy
      · exact Nat.lt_of_lt_of_le h1.first h3.len
      · exact h2.1 y hy
    · rcases Nat.lt_or_ge i (cA a m nx).2.length with hlt | hge
      · rw [h3.old i hlt] at hx
        exact (h1.whole i x hi hx).more h3.len
      · exact h2.2 i x hge hx
end
theorem cE_wh (e : List (List Pe)) (m : List Nd) (nx : Nat) (h : nx < m.length) : Wh m (cE e m nx) := Wh.snoc (q := (0, (cB e m nx).2)) (cB_wh e m nx h).2 (cB_wh e m nx h).1
end Go.Proofs.Ytilfggnhaehbcaa.Rx
