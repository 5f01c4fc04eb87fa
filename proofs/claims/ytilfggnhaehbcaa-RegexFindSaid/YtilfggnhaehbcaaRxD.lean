/- Layer 6, ahead: sets of states; what a machine's set says behind each byte. -/
import Derived.Test.YtilfggnhaehbcaaRxC
set_option linter.unusedVariables false
set_option linter.unusedSimpArgs false
namespace Go.Proofs.Ytilfggnhaehbcaa.Rx
/-- Without reading, from i to j. -/
inductive Eps (M : List St) (i : Nat) : Nat → Prop
  | refl : Eps M i i
  | step {j l : Nat} {st : St} (h : Eps M i j) (hi : M[j]? = some st) (hr : st.reads = false) (hl : l ∈ st.next) : Eps M i l
theorem Eps.trans {M : List St} {i j l : Nat} (h : Eps M i j) (k : Eps M j l) : Eps M i l := by
  induction k with
  | refl => exact h
  | step _ hi hr hl ih => exact .step ih hi hr hl
theorem Eps.head {M : List St} {i j l : Nat} {st : St} (hi : M[i]? = some st) (hr : st.reads = false) (hj : j ∈ st.next) (h : Eps M j l) : Eps M i l := Eps.trans (.step .refl hi hr hj) h
/-- From i to j, reading s. -/
inductive Run (M : List St) (i : Nat) : List UInt8 → Nat → Prop
  | refl : Run M i [] i
  | eps {s : List UInt8} {j l : Nat} {st : St} (h : Run M i s j) (hi : M[j]? = some st) (hr : st.reads = false) (hl : l ∈ st.next) : Run M i s l
  | read {s : List UInt8} {j l : Nat} {st : St} {c : UInt8} (h : Run M i s j) (hi : M[j]? = some st) (hr : st.reads = true) (hc : st.set c = true) (hl : st.next = [l]) : Run M i (s ++ [c]) l
theorem Run.eps_ {M : List St} {i j l : Nat} {s : List UInt8} (h : Run M i s j) (k : Eps M j l) : Run M i s l := by
  induction k with
  | refl => exact h
  | step _ hi hr hl ih => exact .eps ih hi hr hl
theorem Run.trans {M : List St} {i j l : Nat} {s t : List UInt8} (h : Run M i s j) (k : Run M j t l) : Run M i (s ++ t) l := by
  induction k with
  | refl => rwa [List.append_nil]
  | eps _ hi hr hl ih => exact .eps ih hi hr hl
  | read _ hi hr hc hl ih => rw [← List.append_assoc]; exact .read ih hi hr hc hl
theorem Run.acc {M : List St} {i j : Nat} {s t : List UInt8} (h : Run M i s j) (k : Acc M j t) : Acc M i (s ++ t) := by
  induction h generalizing t with
  | refl => exact k
  | eps _ hi hr hl ih => exact ih (Acc.eps hi hr hl k)
  | read _ hi hr hc hl ih => rw [List.append_assoc]; exact ih (Acc.read hi hr hc hl k)
theorem AccN.run {M : List St} {k i : Nat} {s : List UInt8} (h : AccN M k i s) : Run M i s 0 := by
  induction h with
  | done => exact .refl
  | eps hi hr hj _ ih => exact Run.trans (s := []) (.eps .refl hi hr hj) ih
  | @read k i j c s st hi hr hc hj _ ih => exact Run.trans (s := [c]) (Run.read (s := []) .refl hi hr hc hj) ih
theorem acc_run {M : List St} {i : Nat} {s : List UInt8} : Acc M i s ↔ Run M i s 0 :=
  ⟨fun ⟨k, h⟩ => h.run, fun h => by have := h.acc (t := []) ⟨0, .done⟩; rwa [List.append_nil] at this⟩
/-- What reading nothing, and one byte more, lead to. -/
theorem run_nil {M : List St} {i l : Nat} : Run M i [] l ↔ Eps M i l := by
  constructor
  · intro h
    generalize hs : ([] : List UInt8) = s at h
    induction h with
    | refl => exact .refl
    | eps _ hi hr hl ih => exact .step (ih hs) hi hr hl
    | read _ _ _ _ _ _ => simp at hs
  · exact fun h => Run.eps_ .refl h
theorem run_snoc {M : List St} {i l : Nat} {s : List UInt8} {c : UInt8} : Run M i (s ++ [c]) l ↔ ∃ j st x, Run M i s j ∧ M[j]? = some st ∧ st.reads = true ∧ st.set c = true ∧ st.next = [x] ∧ Eps M x l := by
  constructor
  · intro h
    generalize hs : s ++ [c] = t at h
    induction h with
    | refl => simp at hs
    | eps _ hi hr hl ih =>
      obtain ⟨j, st, x, h1, h2, h3, h4, h5, h6⟩ := ih hs
      exact ⟨j, st, x, h1, h2, h3, h4, h5, .step h6 hi hr hl⟩
    | read h hi hr hc hl _ =>
      obtain ⟨rfl, e⟩ := List.append_inj' hs rfl
      cases e
      exact ⟨_, _, _, h, hi, hr, hc, hl, .refl⟩
  · rintro ⟨j, st, x, h1, h2, h3, h4, h5, h6⟩
    exact Run.eps_ (.read h1 h2 h3 h4 h5) h6
/-- A set is closed: what can be reached without reading is in it. -/
def Closed (M : List St) (S : Nat → Prop) : Prop := ∀ x st, S x → M[x]? = some st → st.reads = false → ∀ y ∈ st.next, S y
theorem Closed.eps {M : List St} {S : Nat → Prop} (h : Closed M S) {i j : Nat} (k : Eps M i j) (hi : S i) : S j := by
  induction k with
  | refl => exact hi
  | step _ h1 hr hl ih => exact h _ _ ih h1 hr _ hl
/-- What adding state i to the set S leads to. -/
structure Reach (M : List St) (S : Nat → Prop) (i : Nat) (T : Nat → Prop) : Prop where
  old : ∀ x, S x → T x
  new : T i
  only : ∀ x, T x → S x ∨ Eps M i x
  shut : ∀ x st, T x → ¬ S x → M[x]? = some st → st.reads = false → ∀ y ∈ st.next, T y
theorem Reach.there {M : List St} {S : Nat → Prop} {i : Nat} (h : S i) : Reach M S i S := ⟨fun _ h => h, h, fun _ h => .inl h, fun x _ h1 h2 => absurd h1 h2⟩
theorem Reach.closed {M : List St} {S T : Nat → Prop} {i : Nat} (h : Reach M S i T) (hS : Closed M S) : Closed M T := fun x st hx hi hr y hy => by
  by_cases hs : S x
  · exact h.old y (hS x st hs hi hr y hy)
  · exact h.shut x st hx hs hi hr y hy
/-- In the loop over what follows a state: the first k of them are done. -/
structure Part (M : List St) (S : Nat → Prop) (i : Nat) (next : List Nat) (k : Nat) (T : Nat → Prop) : Prop where
  old : ∀ x, S x → T x
  self : T i
  done : ∀ y ∈ next.take k, T y
  only : ∀ x, T x → S x ∨ Eps M i x
  shut : ∀ x st, T x → ¬ S x → x ≠ i → M[x]? = some st → st.reads = false → ∀ y ∈ st.next, T y
theorem Part.start {M : List St} {S : Nat → Prop} {i : Nat} {next : List Nat} : Part M S i next 0 (fun x => S x ∨ x = i) :=
  ⟨fun _ h => .inl h, .inr rfl, fun y hy => by simp at hy, fun x h => h.imp id (fun e => by rw [e]; exact .refl), fun x st h h2 h3 => absurd h (fun h => h.elim h2 h3)⟩
theorem Part.step {M : List St} {S T U : Nat → Prop} {i k : Nat} {next : List Nat} {st : St} (h : Part M S i next k T) (hk : k < next.length) (hi : M[i]? = some st) (hr : st.reads = false) (hn : st.next = next) (hu : Reach M T next[k] U) : Part M S i next (k + 1) U := by
  refine ⟨fun x hx => hu.old x (h.old x hx), hu.old i h.self, fun y hy => ?_, fun x hx => ?_, fun x st' hx h1 h2 h3 h4 y hy => ?_⟩
  · rw [List.take_add_one, List.getElem?_eq_getElem hk, List.mem_append] at hy
    rcases hy with hy | hy
    · exact hu.old y (h.done y hy)
    · simp only [Option.toList_some, List.mem_singleton] at hy
      rw [hy]
      exact hu.new
  · rcases hu.only x hx with h1 | h1
    · exact h.only x h1
    · exact .inr (Eps.head hi hr (by rw [hn]; exact List.getElem_mem hk) h1)
  · by_cases ht : T x
    · exact hu.old y (h.shut x st' ht h1 h2 h3 h4 y hy)
    · exact hu.shut x st' hx ht h3 h4 y hy
theorem Part.end_ {M : List St} {S T : Nat → Prop} {i : Nat} {st : St} (h : Part M S i st.next st.next.length T) (hi : M[i]? = some st) : Reach M S i T := by
  refine ⟨h.old, h.self, h.only, fun x st' hx h1 h3 h4 y hy => ?_⟩
  by_cases e : x = i
  · subst e
    rw [hi] at h3
    cases h3
    exact h.done y (by rwa [List.take_length])
  · exact h.shut x st' hx h1 e h3 h4 y hy
/-- A state that reads: nothing follows. -/
theorem Reach.reads {M : List St} {S : Nat → Prop} {i : Nat} {st : St} (hi : M[i]? = some st) (hr : st.reads = true) : Reach M S i (fun x => S x ∨ x = i) := by
  refine ⟨fun _ h => .inl h, .inr rfl, fun x h => h.imp id (fun e => by rw [e]; exact .refl), fun x st' h h1 h3 h4 => ?_⟩
  rcases h with h | rfl
  · exact absurd h h1
  · rw [hi] at h3
    cases h3
    rw [hr] at h4
    cases h4
/-- The set says where the machine may be. -/
def Full (M : List St) (i : Nat) (s : List UInt8) (S : Nat → Prop) : Prop := ∀ x, S x ↔ Run M i s x
theorem Full.closed {M : List St} {i : Nat} {s : List UInt8} {S : Nat → Prop} (h : Full M i s S) : Closed M S := fun x st hx hi hr y hy => (h y).2 (.eps ((h x).1 hx) hi hr hy)
theorem full_nil {M : List St} {i : Nat} {S T : Nat → Prop} (hS : ∀ x, ¬ S x) (h : Reach M S i T) : Full M i [] T := fun x => by
  rw [run_nil]
  refine ⟨fun hx => (h.only x hx).resolve_left (hS x), fun hx => (h.closed (fun y _ hy => absurd hy (hS y))).eps hx h.new⟩
/-- In the loop over the states that may read the byte c: those below k are done. -/
structure Bit (M : List St) (S : Nat → Prop) (c : UInt8) (k : Nat) (T : Nat → Prop) : Prop where
  all : ∀ j st x, j < k → S j → M[j]? = some st → st.reads = true → st.set c = true → st.next = [x] → T x
  only : ∀ l, T l → ∃ j st x, S j ∧ M[j]? = some st ∧ st.reads = true ∧ st.set c = true ∧ st.next = [x] ∧ Eps M x l
  shut : Closed M T
theorem Bit.start {M : List St} {S : Nat → Prop} {c : UInt8} {T : Nat → Prop} (hT : ∀ x, ¬ T x) : Bit M S c 0 T := ⟨fun j _ _ h => by omega, fun l h => absurd h (hT l), fun x _ h => absurd h (hT x)⟩
theorem Bit.skip {M : List St} {S T : Nat → Prop} {c : UInt8} {k : Nat} (h : Bit M S c k T) (hk : ¬ (S k ∧ ∃ st, M[k]? = some st ∧ st.reads = true ∧ st.set c = true)) : Bit M S c (k + 1) T := by
  refine ⟨fun j st x hj hs hi hr hc hn => ?_, h.only, h.shut⟩
  by_cases e : j = k
  · subst e
    exact absurd ⟨hs, st, hi, hr, hc⟩ hk
  · exact h.all j st x (by omega) hs hi hr hc hn
theorem Bit.step {M : List St} {S T U : Nat → Prop} {c : UInt8} {k x : Nat} {st : St} (h : Bit M S c k T) (hs : S k) (hi : M[k]? = some st) (hr : st.reads = true) (hc : st.set c = true) (hn : st.next = [x]) (hu : Reach M T x U) : Bit M S c (k + 1) U := by
  refine ⟨fun j st' y hj hs' hi' hr' hc' hn' => ?_, fun l hl => ?_, hu.closed h.shut⟩
  · by_cases e : j = k
    · subst e
      rw [hi] at hi'
      cases hi'
      rw [hn] at hn'
      cases hn'
      exact hu.new
    · exact hu.old y (h.all j st' y (by omega) hs' hi' hr' hc' hn')
  · rcases hu.only l hl with h1 | h1
    · exact h.only l h1
    · exact ⟨k, st, x, hs, hi, hr, hc, hn, h1⟩
theorem Bit.full {M : List St} {S T : Nat → Prop} {c : UInt8} {i : Nat} {s : List UInt8} (h : Bit M S c M.length T) (hS : Full M i s S) : Full M i (s ++ [c]) T := fun l => by
  rw [run_snoc]
  constructor
  · intro hl
    obtain ⟨j, st, x, h1, h2⟩ := h.only l hl
    exact ⟨j, st, x, (hS j).1 h1, h2⟩
  · rintro ⟨j, st, x, h1, h2, h3, h4, h5, h6⟩
    exact h.shut.eps h6 (h.all j st x (List.getElem?_eq_some_iff.1 h2).1 ((hS j).2 h1) h2 h3 h4 h5)
/-- Whether the last state is in the set: whether what was read matches. -/
theorem full_mat {r : Re} {s : List UInt8} {S : Nat → Prop} (h : Full (mach r) (start r) s S) : S 0 ↔ Mat r s := by rw [h 0, ← acc_run, mach_mat]
end Go.Proofs.Ytilfggnhaehbcaa.Rx
