/- Layer 6, ahead: the machine of the reference, of expressions as lists. -/
import Derived.Test.YtilfggnhaehbcaaRxB
set_option linter.unusedVariables false
set_option linter.unusedSimpArgs false
namespace Go.Proofs.Ytilfggnhaehbcaa.Rx
structure St where
  reads : Bool
  set : UInt8 → Bool
  next : List Nat
mutual
/-- The states of an expression behind m; nx comes after it. -/
def comp : Re → List St → Nat → Nat × List St
  | .byte c, m, nx => (m.length, m ++ [⟨true, fun x => x == c, [nx]⟩])
  | .cls f, m, nx => (m.length, m ++ [⟨true, f, [nx]⟩])
  | .cat l, m, nx => compC l m nx
  | .alt l, m, nx => ((compA l m nx).2.length, (compA l m nx).2 ++ [⟨false, none_, (compA l m nx).1⟩])
  | .star r, m, nx => (m.length, (comp r (m ++ [⟨false, none_, []⟩]) m.length).2.set m.length ⟨false, none_, [(comp r (m ++ [⟨false, none_, []⟩]) m.length).1, nx]⟩)
  | .plus r, m, nx => ((comp r (m ++ [⟨false, none_, []⟩]) m.length).1, (comp r (m ++ [⟨false, none_, []⟩]) m.length).2.set m.length ⟨false, none_, [(comp r (m ++ [⟨false, none_, []⟩]) m.length).1, nx]⟩)
def compC : List Re → List St → Nat → Nat × List St
  | [], m, nx => (nx, m)
  | r :: l, m, nx => comp r (compC l m nx).2 (compC l m nx).1
def compA : List Re → List St → Nat → List Nat × List St
  | [], m, nx => ([], m)
  | r :: l, m, nx => ((comp r m nx).1 :: (compA l (comp r m nx).2 nx).1, (compA l (comp r m nx).2 nx).2)
end
/-- m' holds m and more. -/
structure Ext (m m' : List St) : Prop where
  len : m.length ≤ m'.length
  old : ∀ i, i < m.length → m'[i]? = m[i]?
theorem Ext.refl (m : List St) : Ext m m := ⟨Nat.le_refl _, fun _ _ => rfl⟩
theorem Ext.trans {a b c : List St} (h : Ext a b) (k : Ext b c) : Ext a c := ⟨Nat.le_trans h.len k.len, fun i hi => (k.old i (Nat.lt_of_lt_of_le hi h.len)).trans (h.old i hi)⟩
theorem Ext.snoc (m : List St) (x : St) : Ext m (m ++ [x]) := ⟨by simp, fun i hi => List.getElem?_append_left hi⟩
theorem Ext.set {m m' : List St} (h : Ext m m') (x : St) : Ext m (m'.set m.length x) := ⟨by rw [List.length_set]; exact h.len, fun i hi => by rw [List.getElem?_set_ne (by omega)]; exact h.old i hi⟩
mutual
theorem comp_ext : ∀ (r : Re) (m : List St) (nx : Nat), Ext m (comp r m nx).2
  | .byte c, m, nx => Ext.snoc _ _
  | .cls f, m, nx => Ext.snoc _ _
  | .cat l, m, nx => by rw [comp]; exact compC_ext l m nx
  | .alt l, m, nx => by rw [comp]; exact (compA_ext l m nx).trans (Ext.snoc _ _)
  | .star r, m, nx => by rw [comp]; exact ((Ext.snoc m _).trans (comp_ext r _ _)).set _
  | .plus r, m, nx => by rw [comp]; exact ((Ext.snoc m _).trans (comp_ext r _ _)).set _
theorem compC_ext : ∀ (l : List Re) (m : List St) (nx : Nat), Ext m (compC l m nx).2
  | [], m, nx => Ext.refl m
  | r :: l, m, nx => by rw [compC]; exact (compC_ext l m nx).trans (comp_ext r _ _)
theorem compA_ext : ∀ (l : List Re) (m : List St) (nx : Nat), Ext m (compA l m nx).2
  | [], m, nx => Ext.refl m
  | r :: l, m, nx => by rw [compA]; exact (comp_ext r m nx).trans (compA_ext l _ nx)
end
/-- A way of k steps from state i to the last one, reading s. -/
inductive AccN (M : List St) : Nat → Nat → List UInt8 → Prop
  | done : AccN M 0 0 []
  | eps {k i j : Nat} {s : List UInt8} {st : St} (hi : M[i]? = some st) (hr : st.reads = false) (hj : j ∈ st.next) (h : AccN M k j s) : AccN M (k + 1) i s
  | read {k i j : Nat} {c : UInt8} {s : List UInt8} {st : St} (hi : M[i]? = some st) (hr : st.reads = true) (hc : st.set c = true) (hj : st.next = [j]) (h : AccN M k j s) : AccN M (k + 1) i (c :: s)
def Acc (M : List St) (i : Nat) (s : List UInt8) : Prop := ∃ k, AccN M k i s
/-- M holds the states of m' behind those of m. -/
def Has (M m m' : List St) : Prop := ∀ i, m.length ≤ i → i < m'.length → M[i]? = m'[i]?
theorem Has.ext {M m a b : List St} (h : Has M m b) (k : Ext a b) : Has M m a := fun i h1 h2 => (h i h1 (Nat.lt_of_lt_of_le h2 k.len)).trans (k.old i h2)
theorem Has.front {M m a b : List St} (h : Has M m b) (k : m.length ≤ a.length) : Has M a b := fun i h1 h2 => h i (Nat.le_trans k h1) h2
theorem Has.last {M m a : List St} {x : St} (h : Has M m (a ++ [x])) (k : m.length ≤ a.length) : M[a.length]? = some x := by rw [h a.length k (by simp)]; simp
theorem Has.top {M m b : List St} {x : St} (h : Has M m (b.set m.length x)) (k : m.length < b.length) : M[m.length]? = some x := by
  rw [h m.length (Nat.le_refl _) (by rw [List.length_set]; exact k), List.getElem?_set_self k]
theorem Has.rest {M m b : List St} {x y : St} (h : Has M m (b.set m.length x)) : Has M (m ++ [y]) b := fun i h1 h2 => by
  rw [List.length_append, List.length_singleton] at h1
  rw [h i (by omega) (by rw [List.length_set]; exact h2), List.getElem?_set_ne (by omega)]
/-- A state that goes on without reading. -/
theorem AccN.go {M : List St} {k i : Nat} {s : List UInt8} {st : St} (h0 : 0 < i) (hi : M[i]? = some st) (hr : st.reads = false) (h : AccN M k i s) : ∃ j k', j ∈ st.next ∧ k = k' + 1 ∧ AccN M k' j s := by
  cases h with
  | done => omega
  | eps hi2 hr2 hj h =>
    rw [hi] at hi2
    cases hi2
    exact ⟨_, _, hj, rfl, h⟩
  | read hi2 hr2 hc hj h =>
    rw [hi] at hi2
    cases hi2
    rw [hr] at hr2
    cases hr2
theorem AccN.take {M : List St} {k i j : Nat} {s : List UInt8} {st : St} (h0 : 0 < i) (hi : M[i]? = some st) (hr : st.reads = true) (hj : st.next = [j]) (h : AccN M k i s) : ∃ c r k', s = c :: r ∧ st.set c = true ∧ k = k' + 1 ∧ AccN M k' j r := by
  cases h with
  | done => omega
  | eps hi2 hr2 hj h =>
    rw [hi] at hi2
    cases hi2
    rw [hr] at hr2
    cases hr2
  | read hi2 hr2 hc hj2 h =>
    rw [hi] at hi2
    cases hi2
    rw [hj] at hj2
    cases hj2
    exact ⟨_, _, _, rfl, hc, rfl, h⟩
/-- What is read from an expression's first state on: something that it matches, then from nx on. -/
def Snd (M : List St) (P : List UInt8 → Prop) (i nx : Nat) : Prop := ∀ k s, AccN M k i s → ∃ a b j, s = a ++ b ∧ P a ∧ j ≤ k ∧ AccN M j nx b
theorem star_snd {M : List St} {r : Re} {t f nx : Nat} {st : St} (h0 : 0 < t) (ht : M[t]? = some st) (hr : st.reads = false) (hn : st.next = [f, nx]) (h : Snd M (Mat r) f t) : Snd M (Mat (.star r)) t nx := by
  intro k
  induction k using Nat.strongRecOn with
  | _ k ih =>
    intro s hs
    obtain ⟨j, k', hj, rfl, h1⟩ := hs.go h0 ht hr
    rw [hn] at hj
    simp only [List.mem_cons, List.not_mem_nil, or_false] at hj
    rcases hj with rfl | rfl
    · obtain ⟨a, b, j, rfl, ha, hjk, hb⟩ := h _ _ h1
      obtain ⟨a2, b2, j2, rfl, ha2, hj2, hb2⟩ := ih j (by omega) b hb
      exact ⟨a ++ a2, b2, j2, by rw [List.append_assoc], .star_cons ha ha2, by omega, hb2⟩
    · exact ⟨[], s, k', rfl, .star_nil, by omega, h1⟩
mutual
theorem comp_snd : ∀ (r : Re) (m : List St) (nx : Nat) (M : List St), Has M m (comp r m nx).2 → 0 < m.length → Snd M (Mat r) (comp r m nx).1 nx
  | .byte c, m, nx, M, h, h0 => by
    intro k s hs
    rw [comp] at h hs
    obtain ⟨x, r, k', rfl, hc, rfl, h1⟩ := hs.take h0 (h.last (Nat.le_refl _)) rfl rfl
    have e : x = c := by simpa using hc
    subst e
    exact ⟨[x], r, k', rfl, .byte x, by omega, h1⟩
  | .cls f, m, nx, M, h, h0 => by
    intro k s hs
    rw [comp] at h hs
    obtain ⟨x, r, k', rfl, hc, rfl, h1⟩ := hs.take h0 (h.last (Nat.le_refl _)) rfl rfl
    exact ⟨[x], r, k', rfl, .cls f x hc, by omega, h1⟩
  | .cat l, m, nx, M, h, h0 => by rw [comp] at h ⊢; exact compC_snd l m nx M h h0
  | .alt l, m, nx, M, h, h0 => by
    intro k s hs
    rw [comp] at h hs
    have hl := (compA_ext l m nx).len
    obtain ⟨j, k', hj, rfl, h1⟩ := hs.go (by show 0 < (compA l m nx).2.length; omega) (h.last hl) rfl
    obtain ⟨r, hr, hS⟩ := compA_snd l m nx M (h.ext (Ext.snoc _ _)) h0 j hj
    obtain ⟨a, b, j', rfl, ha, hjk, hb⟩ := hS _ _ h1
    exact ⟨a, b, j', rfl, .alt hr ha, by omega, hb⟩
  | .star r, m, nx, M, h, h0 => by
    rw [comp] at h ⊢
    have hl := (comp_ext r (m ++ [⟨false, none_, []⟩]) m.length).len
    rw [List.length_append, List.length_singleton] at hl
    exact star_snd h0 (h.top (by omega)) rfl rfl (comp_snd r _ _ M h.rest (by simp))
  | .plus r, m, nx, M, h, h0 => by
    intro k s hs
    rw [comp] at h hs
    have hl := (comp_ext r (m ++ [⟨false, none_, []⟩]) m.length).len
    rw [List.length_append, List.length_singleton] at hl
    have hS := comp_snd r _ _ M h.rest (by simp)
    obtain ⟨a, b, j, rfl, ha, hjk, hb⟩ := hS _ _ hs
    obtain ⟨a2, b2, j2, rfl, ha2, hj2, hb2⟩ := star_snd h0 (h.top (by omega)) rfl rfl hS _ _ hb
    exact ⟨a ++ a2, b2, j2, by rw [List.append_assoc], .plus ha ha2, by omega, hb2⟩
theorem compC_snd : ∀ (l : List Re) (m : List St) (nx : Nat) (M : List St), Has M m (compC l m nx).2 → 0 < m.length → Snd M (Mat (.cat l)) (compC l m nx).1 nx
  | [], m, nx, M, h, h0 => fun k s hs => ⟨[], s, k, rfl, .cat_nil, Nat.le_refl _, hs⟩
  | r :: l, m, nx, M, h, h0 => by
    intro k s hs
    rw [compC] at h hs
    have hl := (compC_ext l m nx).len
    obtain ⟨a, b, j, rfl, ha, hjk, hb⟩ := comp_snd r _ _ M (h.front hl) (by omega) _ _ hs
    obtain ⟨a2, b2, j2, rfl, ha2, hj2, hb2⟩ := compC_snd l m nx M (h.ext (comp_ext r _ _)) h0 _ _ hb
    exact ⟨a ++ a2, b2, j2, by rw [List.append_assoc], .cat_cons ha ha2, by omega, hb2⟩
theorem compA_snd : ∀ (l : List Re) (m : List St) (nx : Nat) (M : List St), Has M m (compA l m nx).2 → 0 < m.length → ∀ i ∈ (compA l m nx).1, ∃ r ∈ l, Snd M (Mat r) i nx
  | [], m, nx, M, h, h0 => fun i hi => by cases hi
  | r :: l, m, nx, M, h, h0 => by
    intro i hi
    rw [compA] at h hi
    have hl := (comp_ext r m nx).len
    rcases List.mem_cons.1 hi with rfl | hi
    · exact ⟨r, by simp, comp_snd r m nx M (h.ext (compA_ext l _ nx)) h0⟩
    · obtain ⟨q, hq, hS⟩ := compA_snd l (comp r m nx).2 nx M (h.front hl) (by omega) i hi
      exact ⟨q, by simp [hq], hS⟩
end
/-! The other direction. -/
theorem Acc.eps {M : List St} {i j : Nat} {s : List UInt8} {st : St} (hi : M[i]? = some st) (hr : st.reads = false) (hj : j ∈ st.next) (h : Acc M j s) : Acc M i s := by
  obtain ⟨k, h⟩ := h
  exact ⟨_, .eps hi hr hj h⟩
theorem Acc.read {M : List St} {i j : Nat} {c : UInt8} {s : List UInt8} {st : St} (hi : M[i]? = some st) (hr : st.reads = true) (hc : st.set c = true) (hj : st.next = [j]) (h : Acc M j s) : Acc M i (c :: s) := by
  obtain ⟨k, h⟩ := h
  exact ⟨_, .read hi hr hc hj h⟩
def Cpl (M : List St) (P : List UInt8 → Prop) (i nx : Nat) : Prop := ∀ a b, P a → Acc M nx b → Acc M i (a ++ b)
theorem star_cpl {M : List St} {r : Re} {t f nx : Nat} {st : St} (ht : M[t]? = some st) (hr : st.reads = false) (hn : st.next = [f, nx]) (h : Cpl M (Mat r) f t) : Cpl M (Mat (.star r)) t nx := by
  intro a b ha hb
  generalize hq : Re.star r = q at ha
  induction ha with
  | star_nil => exact Acc.eps ht hr (by rw [hn]; simp) hb
  | @star_cons r' x y hx hy ih1 ih2 =>
    cases hq
    rw [List.append_assoc]
    exact Acc.eps ht hr (by rw [hn]; simp) (h _ _ hx (ih2 rfl))
  | _ => cases hq
mutual
theorem comp_cpl : ∀ (r : Re) (m : List St) (nx : Nat) (M : List St), Has M m (comp r m nx).2 → Cpl M (Mat r) (comp r m nx).1 nx
  | .byte c, m, nx, M, h => by
    intro a b ha hb
    rw [comp] at h ⊢
    rw [mat_byte] at ha
    subst ha
    exact Acc.read (h.last (Nat.le_refl _)) rfl (by simp) rfl hb
  | .cls f, m, nx, M, h => by
    intro a b ha hb
    rw [comp] at h ⊢
    obtain ⟨c, rfl, hc⟩ := mat_cls.1 ha
    exact Acc.read (h.last (Nat.le_refl _)) rfl hc rfl hb
  | .cat l, m, nx, M, h => by rw [comp] at h ⊢; exact compC_cpl l m nx M h
  | .alt l, m, nx, M, h => by
    intro a b ha hb
    rw [comp] at h ⊢
    obtain ⟨r, hr, ha⟩ := mat_alt.1 ha
    obtain ⟨i, hi, hC⟩ := compA_cpl l m nx M (h.ext (Ext.snoc _ _)) r hr
    exact Acc.eps (h.last (compA_ext l m nx).len) rfl hi (hC a b ha hb)
  | .star r, m, nx, M, h => by
    rw [comp] at h ⊢
    have hl := (comp_ext r (m ++ [⟨false, none_, []⟩]) m.length).len
    rw [List.length_append, List.length_singleton] at hl
    exact star_cpl (h.top (by omega)) rfl rfl (comp_cpl r _ _ M h.rest)
  | .plus r, m, nx, M, h => by
    intro a b ha hb
    rw [comp] at h ⊢
    have hl := (comp_ext r (m ++ [⟨false, none_, []⟩]) m.length).len
    rw [List.length_append, List.length_singleton] at hl
    have hC := comp_cpl r _ _ M h.rest
    obtain ⟨x, y, rfl, hx, hy⟩ := mat_plus.1 ha
    rw [List.append_assoc]
    exact hC _ _ hx (star_cpl (h.top (by omega)) rfl rfl hC _ _ hy hb)
theorem compC_cpl : ∀ (l : List Re) (m : List St) (nx : Nat) (M : List St), Has M m (compC l m nx).2 → Cpl M (Mat (.cat l)) (compC l m nx).1 nx
  | [], m, nx, M, h => fun a b ha hb => by rw [mat_nil] at ha; subst ha; exact hb
  | r :: l, m, nx, M, h => by
    intro a b ha hb
    rw [compC] at h ⊢
    obtain ⟨x, y, rfl, hx, hy⟩ := mat_cons.1 ha
    rw [List.append_assoc]
    exact comp_cpl r _ _ M (h.front (compC_ext l m nx).len) _ _ hx (compC_cpl l m nx M (h.ext (comp_ext r _ _)) _ _ hy hb)
theorem compA_cpl : ∀ (l : List Re) (m : List St) (nx : Nat) (M : List St), Has M m (compA l m nx).2 → ∀ r ∈ l, ∃ i ∈ (compA l m nx).1, Cpl M (Mat r) i nx
  | [], m, nx, M, h => fun r hr => by cases hr
  | q :: l, m, nx, M, h => by
    intro r hr
    rw [compA] at h ⊢
    rcases List.mem_cons.1 hr with e | hr
    · exact ⟨(comp q m nx).1, by simp, by rw [e]; exact comp_cpl q m nx M (h.ext (compA_ext l _ nx))⟩
    · obtain ⟨i, hi, hC⟩ := compA_cpl l (comp q m nx).2 nx M (h.front (comp_ext q m nx).len) r hr
      exact ⟨i, by simp [hi], hC⟩
end
/-- The machine: one last state, then the expression's. -/
def mach (r : Re) : List St := (comp r [⟨false, none_, []⟩] 0).2
def start (r : Re) : Nat := (comp r [⟨false, none_, []⟩] 0).1
theorem mach_zero (r : Re) : (mach r)[0]? = some ⟨false, none_, []⟩ := (comp_ext r [⟨false, none_, []⟩] 0).old 0 (by simp)
theorem acc_zero {r : Re} {s : List UInt8} : Acc (mach r) 0 s ↔ s = [] := by
  constructor
  · rintro ⟨k, h⟩
    cases h with
    | done => rfl
    | eps hi hr hj h => rw [mach_zero] at hi; cases hi; cases hj
    | read hi hr hc hj h => rw [mach_zero] at hi; cases hi; cases hr
  · rintro rfl
    exact ⟨0, .done⟩
theorem mach_mat (r : Re) (s : List UInt8) : Acc (mach r) (start r) s ↔ Mat r s := by
  constructor
  · rintro ⟨k, h⟩
    obtain ⟨a, b, j, rfl, ha, _, hb⟩ := comp_snd r [⟨false, none_, []⟩] 0 (mach r) (fun _ _ _ => rfl) (by simp) k s h
    rw [acc_zero.1 ⟨j, hb⟩, List.append_nil]
    exact ha
  · intro h
    have h1 := comp_cpl r [⟨false, none_, []⟩] 0 (mach r) (fun _ _ _ => rfl) s [] h (acc_zero.2 rfl)
    rwa [List.append_nil] at h1
end Go.Proofs.Ytilfggnhaehbcaa.Rx
