/- Layer 6: factors and alternatives in memory. -/
import Derived.Test.YtilfggnhaehbcaaK1
set_option linter.unusedVariables false
set_option linter.unusedSimpArgs false
namespace Go.Proofs.Ytilfggnhaehbcaa.Rx
open Go.RowKit
/-- The cells of a factor. -/
def facL (f : UInt8 → Bool) (inner : Value) (lit : Bool) (letter rp : UInt8) : List Value := clsC f ++ [inner, .bool lit, .int .u8 letter.toNat, .int .u8 rp.toNat]
theorem facL_len (f : UInt8 → Bool) (inner : Value) (lit : Bool) (letter rp : UInt8) : (facL f inner lit letter rp).length = 260 := by unfold facL; rw [List.length_append, clsC_len]; rfl
theorem facL_at (f : UInt8 → Bool) (inner : Value) (lit : Bool) (letter rp : UInt8) :
    (facL f inner lit letter rp)[256]? = some inner ∧ (facL f inner lit letter rp)[257]? = some (.bool lit) ∧ (facL f inner lit letter rp)[258]? = some (.int .u8 letter.toNat) ∧ (facL f inner lit letter rp)[259]? = some (.int .u8 rp.toNat) := by
  have h : ∀ j, (facL f inner lit letter rp)[256 + j]? = [inner, .bool lit, .int .u8 letter.toNat, .int .u8 rp.toNat][j]? := fun j => by
    unfold facL
    rw [List.getElem?_append_right (by rw [clsC_len]; omega), clsC_len, Nat.add_sub_cancel_left]
  exact ⟨h 0, h 1, h 2, h 3⟩
theorem facL_rep (f : UInt8 → Bool) (inner : Value) (lit : Bool) (letter rp rp' : UInt8) : (facL f inner lit letter rp).set 259 (.int .u8 rp'.toNat) = facL f inner lit letter rp' := by
  unfold facL
  rw [List.set_append, if_neg (by rw [clsC_len]; omega), clsC_len]
  rfl
theorem facL_one (f : UInt8 → Bool) {inner : Value} (h : inner.oneCell' = true) (lit : Bool) (letter rp : UInt8) : ∀ v ∈ facL f inner lit letter rp, v.oneCell' = true := by
  intro v hv
  unfold facL at hv
  rcases List.mem_append.1 hv with hv | hv
  · exact clsC_one f v hv
  · simp only [List.mem_cons, List.not_mem_nil, or_false] at hv
    rcases hv with rfl | rfl | rfl | rfl
    · exact h
    · rfl
    · rfl
    · rfl
/-- The zero values. -/
theorem zero45 : (Try.prog.info? 45).map (·.zero) = some (some (.agg (clsC none_).toArray)) := by kernel_rfl
theorem zero47 : (Try.prog.info? 47).map (·.zero) = some (some (.agg (facL none_ (.slice none 0 0) false 0 0).toArray)) := by kernel_rfl
theorem size45 : (Try.prog.info? 45).map (·.size) = some 256 := by kernel_rfl
theorem size47 : (Try.prog.info? 47).map (·.size) = some 260 := by kernel_rfl
mutual
/-- A factor's cells, and what they lead to, in the blocks of T. -/
def PeV (w : World) (T : Nat → Prop) (C : List Value) : Pe → Prop
  | .byte c r => C = facL (fun x => x == c) (.slice none 0 0) true c r.b
  | .cls f r => C = facL f (.slice none 0 0) false 0 r.b
  | .sub e r => (e ≠ [] ∧ e.length ≤ 1001) ∧ ∃ b cap, C = facL none_ (.slice (some ⟨b, 0, none⟩) e.length cap) false 0 r.b ∧ T b ∧ AltsV w T b 0 e
/-- The alternatives from place k of block b on. -/
def AltsV (w : World) (T : Nat → Prop) (b : Nat) : Nat → List (List Pe) → Prop
  | _, [] => True
  | k, a :: e => (∃ A cap, w.cell? ⟨b, k, none⟩ = some (.slice A a.length cap) ∧ (a ≠ [] → ∃ g, A = some ⟨g, 0, none⟩ ∧ T g ∧ RowV w T g 0 a)) ∧ AltsV w T b (k + 1) e
/-- The factors from place k of block b on. -/
def RowV (w : World) (T : Nat → Prop) (b : Nat) : Nat → List Pe → Prop
  | _, [] => True
  | k, p :: l => (∃ C, w.rangeAt b (k * 260) C ∧ PeV w T C p) ∧ RowV w T b (k + 1) l
end
/-- A slice that reads as factors. -/
def FsV (w : World) (T : Nat → Prop) (A : Option Addr) (a : List Pe) : Prop := a ≠ [] → ∃ g, A = some ⟨g, 0, none⟩ ∧ T g ∧ RowV w T g 0 a
theorem rangeAt_keep {w w' : World} {b o : Nat} {C : List Value} (h : w.rangeAt b o C) (hk : ∀ j, w'.cell? ⟨b, j, none⟩ = w.cell? ⟨b, j, none⟩) : w'.rangeAt b o C := fun j v hv => (hk _).trans (h j v hv)
mutual
theorem PeV.keep {w w' : World} {T T' : Nat → Prop} {C : List Value} (hT : ∀ k, T k → T' k) (hk : ∀ b j, T b → w'.cell? ⟨b, j, none⟩ = w.cell? ⟨b, j, none⟩) : ∀ {p : Pe}, PeV w T C p → PeV w' T' C p
  | .byte c r, h => by rw [PeV] at h ⊢; exact h
  | .cls f r, h => by rw [PeV] at h ⊢; exact h
  | .sub e r, h => by
    rw [PeV] at h ⊢
    obtain ⟨h0, b, cap, h1, h2, h3⟩ := h
    exact ⟨h0, b, cap, h1, hT b h2, AltsV.keep hT hk (hk b · h2) h3⟩
theorem AltsV.keep {w w' : World} {T T' : Nat → Prop} {b : Nat} (hT : ∀ k, T k → T' k) (hk : ∀ b j, T b → w'.cell? ⟨b, j, none⟩ = w.cell? ⟨b, j, none⟩) (hb : ∀ j, w'.cell? ⟨b, j, none⟩ = w.cell? ⟨b, j, none⟩) : ∀ {k : Nat} {e : List (List Pe)}, AltsV w T b k e → AltsV w' T' b k e
  | k, [], h => by rw [AltsV]; trivial
  | k, a :: e, h => by
    rw [AltsV] at h ⊢
    obtain ⟨⟨A, cap, h1, h2⟩, h3⟩ := h
    refine ⟨⟨A, cap, (hb k).trans h1, fun ha => ?_⟩, AltsV.keep hT hk hb h3⟩
    obtain ⟨g, h4, h5, h6⟩ := h2 ha
    exact ⟨g, h4, hT g h5, RowV.keep hT hk (hk g · h5) h6⟩
theorem RowV.keep {w w' : World} {T T' : Nat → Prop} {b : Nat} (hT : ∀ k, T k → T' k) (hk : ∀ b j, T b → w'.cell? ⟨b, j, none⟩ = w.cell? ⟨b, j, none⟩) (hb : ∀ j, w'.cell? ⟨b, j, none⟩ = w.cell? ⟨b, j, none⟩) : ∀ {k : Nat} {l : List Pe}, RowV w T b k l → RowV w' T' b k l
  | k, [], h => by rw [RowV]; trivial
  | k, p :: l, h => by
    rw [RowV] at h ⊢
    obtain ⟨⟨C, h1, h2⟩, h3⟩ := h
    exact ⟨⟨C, rangeAt_keep h1 hb, PeV.keep hT hk h2⟩, RowV.keep hT hk hb h3⟩
end
theorem FsV.keep {w w' : World} {T T' : Nat → Prop} {A : Option Addr} {a : List Pe} (h : FsV w T A a) (hT : ∀ k, T k → T' k) (hk : ∀ b j, T b → w'.cell? ⟨b, j, none⟩ = w.cell? ⟨b, j, none⟩) : FsV w' T' A a := fun ha => by
  obtain ⟨g, h4, h5, h6⟩ := h ha
  exact ⟨g, h4, hT g h5, RowV.keep hT hk (hk g · h5) h6⟩
theorem RowV.at_ {w : World} {T : Nat → Prop} {b : Nat} : ∀ {k : Nat} {l : List Pe}, RowV w T b k l → ∀ j (hj : j < l.length), ∃ C, w.rangeAt b ((k + j) * 260) C ∧ PeV w T C l[j]
  | k, [], h, j, hj => by simp at hj
  | k, p :: l, h, 0, hj => by rw [RowV] at h; exact h.1
  | k, p :: l, h, j + 1, hj => by
    rw [RowV] at h
    have := RowV.at_ h.2 j (by simpa using hj)
    rw [show k + (j + 1) = k + 1 + j by omega]
    exact this
theorem RowV.of {w : World} {T : Nat → Prop} {b : Nat} : ∀ {k : Nat} {l : List Pe}, (∀ j (hj : j < l.length), ∃ C, w.rangeAt b ((k + j) * 260) C ∧ PeV w T C l[j]) → RowV w T b k l
  | k, [], h => by rw [RowV]; trivial
  | k, p :: l, h => by
    rw [RowV]
    refine ⟨h 0 (by simp), RowV.of fun j hj => ?_⟩
    have := h (j + 1) (by simpa using hj)
    rw [show k + (j + 1) = k + 1 + j by omega] at this
    exact this
theorem AltsV.at_ {w : World} {T : Nat → Prop} {b : Nat} : ∀ {k : Nat} {e : List (List Pe)}, AltsV w T b k e → ∀ j (hj : j < e.length), ∃ A cap, w.cell? ⟨b, k + j, none⟩ = some (.slice A e[j].length cap) ∧ FsV w T A e[j]
  | k, [], h, j, hj => by simp at hj
  | k, a :: e, h, 0, hj => by rw [AltsV] at h; exact h.1
  | k, a :: e, h, j + 1, hj => by
    rw [AltsV] at h
    have := AltsV.at_ h.2 j (by simpa using hj)
    rw [show k + (j + 1) = k + 1 + j by omega]
    exact this
theorem AltsV.of {w : World} {T : Nat → Prop} {b : Nat} : ∀ {k : Nat} {e : List (List Pe)}, (∀ j (hj : j < e.length), ∃ A cap, w.cell? ⟨b, k + j, none⟩ = some (.slice A e[j].length cap) ∧ FsV w T A e[j]) → AltsV w T b k e
  | k, [], h => by rw [AltsV]; trivial
  | k, a :: e, h => by
    rw [AltsV]
    refine ⟨h 0 (by simp), AltsV.of fun j hj => ?_⟩
    have := h (j + 1) (by simpa using hj)
    rw [show k + (j + 1) = k + 1 + j by omega] at this
    exact this
/-- Factors whose cells are given. -/
def PesV (w : World) (T : Nat → Prop) : List (List Value) → List Pe → Prop
  | [], [] => True
  | C :: hs, p :: l => PeV w T C p ∧ PesV w T hs l
  | _, _ => False
theorem PeV.len {w : World} {T : Nat → Prop} {C : List Value} {p : Pe} (h : PeV w T C p) : C.length = 260 ∧ ∀ v ∈ C, v.oneCell' = true := by
  cases p with
  | byte c r => rw [PeV] at h; subst h; exact ⟨facL_len _ _ _ _ _, facL_one _ rfl _ _ _⟩
  | cls c r => rw [PeV] at h; subst h; exact ⟨facL_len _ _ _ _ _, facL_one _ rfl _ _ _⟩
  | sub e r => rw [PeV] at h; obtain ⟨_, b, cap, rfl, _⟩ := h; exact ⟨facL_len _ _ _ _ _, facL_one _ rfl _ _ _⟩
/-- Factors as one list of cells. -/
def RowL (w : World) (T : Nat → Prop) (xs : List Value) (l : List Pe) : Prop := xs.length = l.length * 260 ∧ ∀ j (hj : j < l.length), ∃ C, (∀ i v, C[i]? = some v → xs[j * 260 + i]? = some v) ∧ PeV w T C l[j]
theorem RowL.nil (w : World) (T : Nat → Prop) : RowL w T [] [] := ⟨rfl, fun j hj => by simp at hj⟩
theorem RowL.keep {w w' : World} {T T' : Nat → Prop} {xs : List Value} {l : List Pe} (h : RowL w T xs l) (hT : ∀ k, T k → T' k) (hk : ∀ b j, T b → w'.cell? ⟨b, j, none⟩ = w.cell? ⟨b, j, none⟩) : RowL w' T' xs l :=
  ⟨h.1, fun j hj => by
    obtain ⟨C, h1, h2⟩ := h.2 j hj
    exact ⟨C, h1, PeV.keep hT hk h2⟩⟩
theorem RowL.snoc {w : World} {T : Nat → Prop} {xs C : List Value} {l : List Pe} {p : Pe} (h : RowL w T xs l) (hp : PeV w T C p) : RowL w T (xs ++ C) (l ++ [p]) := by
  refine ⟨by rw [List.length_append, h.1, hp.len.1, List.length_append, List.length_singleton, Nat.add_mul], fun j hj => ?_⟩
  rw [List.length_append, List.length_singleton] at hj
  rcases Nat.lt_or_ge j l.length with hlt | hge
  · obtain ⟨D, h1, h2⟩ := h.2 j hlt
    refine ⟨D, fun i v hv => ?_, by rw [List.getElem_append_left hlt]; exact h2⟩
    have h3 := h1 i v hv
    rw [List.getElem?_append_left (List.getElem?_eq_some_iff.1 h3).1]
    exact h3
  · obtain rfl : j = l.length := by omega
    refine ⟨C, fun i v hv => ?_, by rw [List.getElem_append_right (Nat.le_refl _)]; simpa using hp⟩
    rw [List.getElem?_append_right (by rw [h.1]; omega), h.1, Nat.add_sub_cancel_left]
    exact hv
/-- A row of the call's own that holds factors: as it reads later. -/
theorem FsV.of_own {w : World} {T : Nat → Prop} {B : Nat} {e : TypeId} {v : Value} {xs : List Value} {l : List Pe} (h : w.ownsRow B e 260 v l.length xs) (hl : RowL w T xs l) (hT : ∀ g, v.ownBlock = some g → T g) : ∃ A cap, v = .slice A l.length cap ∧ FsV w T A l := by
  rcases h.2 with ⟨rfl, h0⟩ | ⟨g, cap, cur, rfl, hr⟩
  · exact ⟨none, 0, by rw [h0], fun hne => absurd (List.length_eq_zero_iff.1 h0) hne⟩
  · refine ⟨_, _, rfl, fun hne => ⟨g, rfl, hT g rfl, RowV.of fun j hj => ?_⟩⟩
    obtain ⟨C, h1, h2⟩ := hl.2 j hj
    refine ⟨C, fun i u hu => ?_, h2⟩
    have hc := World.ownsRow.cells (g := g) h rfl _ _ (h1 i u hu)
    have e : ∀ i, (⟨g, 0, none⟩ : Addr).add i = ⟨g, 0 + i, none⟩ := fun i => by cases i <;> simp [Addr.add]
    rw [e, Nat.zero_add] at hc
    rw [Nat.zero_add]
    exact hc
/-- Alternatives as cells. -/
def AltL (w : World) (T : Nat → Prop) (xs : List Value) (e : List (List Pe)) : Prop := xs.length = e.length ∧ ∀ j (hj : j < e.length), ∃ A cap, xs[j]? = some (.slice A e[j].length cap) ∧ FsV w T A e[j]
theorem AltL.keep {w w' : World} {T T' : Nat → Prop} {xs : List Value} {e : List (List Pe)} (h : AltL w T xs e) (hT : ∀ k, T k → T' k) (hk : ∀ b j, T b → w'.cell? ⟨b, j, none⟩ = w.cell? ⟨b, j, none⟩) : AltL w' T' xs e :=
  ⟨h.1, fun j hj => by
    obtain ⟨A, cap, h1, h2⟩ := h.2 j hj
    exact ⟨A, cap, h1, h2.keep hT hk⟩⟩
theorem AltL.nil (w : World) (T : Nat → Prop) : AltL w T [] [] := ⟨rfl, fun j hj => by simp at hj⟩
theorem AltL.snoc {w : World} {T : Nat → Prop} {xs : List Value} {e : List (List Pe)} {a : List Pe} {A : Option Addr} {cap : Nat} (h : AltL w T xs e) (hp : FsV w T A a) : AltL w T (xs ++ [.slice A a.length cap]) (e ++ [a]) := by
  refine ⟨by simp [h.1], fun j hj => ?_⟩
  rw [List.length_append, List.length_singleton] at hj
  rcases Nat.lt_or_ge j e.length with hlt | hge
  · obtain ⟨D, c, h1, h2⟩ := h.2 j hlt
    exact ⟨D, c, by rw [List.getElem_append_left hlt, List.getElem?_append_left (by rw [h.1]; exact hlt)]; exact h1, by rw [List.getElem_append_left hlt]; exact h2⟩
  · obtain rfl : j = e.length := by omega
    refine ⟨A, cap, ?_, by rw [List.getElem_append_right (Nat.le_refl _)]; simpa using hp⟩
    rw [List.getElem?_append_right (by rw [h.1]; omega), h.1, List.getElem_append_right (Nat.le_refl _)]
    simp
theorem AltsV.of_own {w : World} {T : Nat → Prop} {B : Nat} {t : TypeId} {v : Value} {xs : List Value} {e : List (List Pe)} (h : w.ownsRow B t 1 v e.length xs) (hl : AltL w T xs e) (hT : ∀ g, v.ownBlock = some g → T g) (he : e ≠ []) : ∃ b cap, v = .slice (some ⟨b, 0, none⟩) e.length cap ∧ T b ∧ AltsV w T b 0 e := by
  rcases h.2 with ⟨rfl, h0⟩ | ⟨g, cap, cur, rfl, hr⟩
  · exact absurd (List.length_eq_zero_iff.1 h0) he
  · refine ⟨g, cap, rfl, hT g rfl, AltsV.of fun j hj => ?_⟩
    obtain ⟨A, c, h1, h2⟩ := hl.2 j hj
    refine ⟨A, c, ?_, h2⟩
    have hc := World.ownsRow.cells (g := g) h rfl _ _ h1
    have e : ∀ i, (⟨g, 0, none⟩ : Addr).add i = ⟨g, 0 + i, none⟩ := fun i => by cases i <;> simp [Addr.add]
    rw [e] at hc
    exact hc
end Go.Proofs.Ytilfggnhaehbcaa.Rx
