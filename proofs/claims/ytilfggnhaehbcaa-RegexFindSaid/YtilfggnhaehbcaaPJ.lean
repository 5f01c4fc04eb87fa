/- Layer 6: what the program's reader makes: relations to the text. -/
import Derived.Test.YtilfggnhaehbcaaPI
set_option linter.unusedVariables false
set_option linter.unusedSimpArgs false
namespace Go.Proofs.Ytilfggnhaehbcaa.Rx
open Go.RowKit
theorem info_parts {P : Program} {t : TypeId} {z : Value} {n b : Nat} (h : (P.info? t).map (fun i => (i.zero, i.size, i.bytes)) = some (some z, n, b)) : ∃ i, P.info? t = some i ∧ i.zero = some z ∧ i.size = n ∧ i.bytes = b := by
  cases hq : P.info? t with
  | none => rw [hq] at h; cases h
  | some i =>
    rw [hq] at h
    simp only [Option.map_some, Option.some.injEq, Prod.mk.injEq] at h
    exact ⟨i, rfl, h⟩
theorem info47 : (Try.prog.info? 47).map (fun i => (i.zero, i.size, i.bytes)) = some (some (.agg Z47.toArray), 260, 288) := by kernel_rfl
theorem info43 : (Try.prog.info? 43).map (fun i => (i.zero, i.size, i.bytes)) = some (some (.slice none 0 0), 1, 24) := by kernel_rfl
/-- A slice that reads as an expression. -/
def ExV (w : World) (T : Nat → Prop) (v : Value) (x : List (List Pe)) : Prop := (x ≠ [] ∧ x.length ≤ 1001) ∧ ∃ b cap, v = .slice (some ⟨b, 0, none⟩) x.length cap ∧ T b ∧ AltsV w T b 0 x
def AlV (w : World) (T : Nat → Prop) (v : Value) (a : List Pe) : Prop := ∃ A cap, v = .slice A a.length cap ∧ FsV w T A a
theorem ExV.keep {w w' : World} {T T' : Nat → Prop} {v : Value} {x : List (List Pe)} (h : ExV w T v x) (hT : ∀ k, T k → T' k) (hk : ∀ b j, T b → w'.cell? ⟨b, j, none⟩ = w.cell? ⟨b, j, none⟩) : ExV w' T' v x := by
  obtain ⟨h0, b, cap, h1, h2, h3⟩ := h
  exact ⟨h0, b, cap, h1, hT b h2, AltsV.keep hT hk (hk b · h2) h3⟩
theorem AlV.keep {w w' : World} {T T' : Nat → Prop} {v : Value} {a : List Pe} (h : AlV w T v a) (hT : ∀ k, T k → T' k) (hk : ∀ b j, T b → w'.cell? ⟨b, j, none⟩ = w.cell? ⟨b, j, none⟩) : AlV w' T' v a := by
  obtain ⟨A, cap, h1, h2⟩ := h
  exact ⟨A, cap, h1, h2.keep hT hk⟩
/-- What a part leaves as it was keeps what was made before. -/
theorem fresh_keep {S : Nat → Prop} {a b c : World} (h : But S b c) (hS : ∀ n, S n → n < a.heap.size ∨ b.heap.size ≤ n) : ∀ g j, Fresh a b g → c.cell? ⟨g, j, none⟩ = b.cell? ⟨g, j, none⟩ := fun g j hg =>
  h.cell hg.2 (fun hs => by rcases hS g hs with h1 | h1 <;> (have := hg.1; have := hg.2; omega))
theorem PeV.on {S : Nat → Prop} {a0 a b c : World} {C : List Value} {p : Pe} (hp : PeV b (Fresh a b) C p) (h : But S b c) (hS : ∀ n, S n → n < a.heap.size ∨ b.heap.size ≤ n) (ha : a0.heap.size ≤ a.heap.size) : PeV c (Fresh a0 c) C p :=
  PeV.keep (fun k hk => ⟨Nat.le_trans ha hk.1, Nat.lt_of_lt_of_le hk.2 h.size⟩) (fresh_keep h hS) hp
theorem ExV.on {S : Nat → Prop} {a0 a b c : World} {v : Value} {x : List (List Pe)} (hp : ExV b (Fresh a b) v x) (h : But S b c) (hS : ∀ n, S n → n < a.heap.size ∨ b.heap.size ≤ n) (ha : a0.heap.size ≤ a.heap.size) : ExV c (Fresh a0 c) v x :=
  hp.keep (fun k hk => ⟨Nat.le_trans ha hk.1, Nat.lt_of_lt_of_le hk.2 h.size⟩) (fresh_keep h hS)
theorem PeV.any {w : World} {T : Nat → Prop} {C : List Value} {p : Pe} (h : ∀ w, PeV w (fun _ => False) C p) : PeV w T C p := PeV.keep (w := w) (T := fun _ => False) (fun _ h => h.elim) (fun _ _ h => h.elim) (h w)
theorem PeV.none_ {w w' : World} {T : Nat → Prop} {C : List Value} {p : Pe} (h : PeV w (fun _ => False) C p) : PeV w' T C p := PeV.keep (T := fun _ => False) (fun _ h => h.elim) (fun _ _ h => h.elim) h
/-- An expression's text. -/
structure ExRel (l l' : List UInt8) (b : Bool) (x : List (List Pe)) : Prop where
  ok : b = false → ex [] [] l = some (.alt (reE x), l') ∧ (l' = [] ∨ ∃ r, l' = 41 :: r) ∧ wE x + l'.length ≤ l.length
  no : b = true → ex [] [] l = none ∧ l' = []
structure AltRel (l l' : List UInt8) (b : Bool) (a : List Pe) : Prop where
  ok : b = false → (∀ outs, ex outs [] l = ex outs (reA a) l') ∧ (l' = [] ∨ (∃ r, l' = 41 :: r) ∨ ∃ r, l' = 124 :: r) ∧ wA a + l'.length ≤ l.length
  no : b = true → (∀ outs, ex outs [] l = none) ∧ l' = []
structure AtomRel (l l' : List UInt8) (b : Bool) (p : Pe) : Prop where
  one : p.rp = .one
  ok : b = false → ax l = some (reF p, l') ∧ wF p + l'.length ≤ l.length
  no : b = true → ax l = none ∧ l' = []
structure FacRel (l l' : List UInt8) (b : Bool) (p : Pe) : Prop where
  ok : b = false → wF p + l'.length ≤ l.length ∧ ∃ n r, ax l = some (n, r) ∧ (post n r = some (reF p, l') ∨ (post n r = none ∧ ∃ d q, l' = d :: q ∧ rep d = true))
  no : b = true → ax l = none ∧ l' = []
structure ParRel (l l' : List UInt8) (b : Bool) (p : Pe) : Prop where
  one : p.rp = .one
  ok : b = false → closed (ex [] [] l) = some (reF p, l') ∧ wF p + l'.length ≤ l.length
  no : b = true → closed (ex [] [] l) = none ∧ l' = []
def ExP (ra : Nat) (s : ByteArray) (w : World) (e : Ending) (w' : World) : Prop :=
  ∃ (x : List (List Pe)) (v : Value) (s' : ByteArray) (b' : Bool), e = .returned v ∧ Hid (ExV w' (Fresh w w') v x) ∧ Hid (Rd w' ra s' b') ∧ Hid (But (· = ra) w w') ∧ s'.size ≤ s.size ∧ Hid (ExRel s.data.toList s'.data.toList b' x)
def AlP (ra : Nat) (s : ByteArray) (w : World) (e : Ending) (w' : World) : Prop :=
  ∃ (a : List Pe) (v : Value) (s' : ByteArray) (b' : Bool), e = .returned v ∧ Hid (AlV w' (Fresh w w') v a) ∧ Hid (Rd w' ra s' b') ∧ Hid (But (· = ra) w w') ∧ s'.size ≤ s.size ∧ Hid (AltRel s.data.toList s'.data.toList b' a)
def FaP (Rel : List UInt8 → List UInt8 → Bool → Pe → Prop) (ra : Nat) (s : ByteArray) (w : World) (e : Ending) (w' : World) : Prop :=
  ∃ (p : Pe) (C : List Value) (s' : ByteArray) (b' : Bool), e = .returned (.agg C.toArray) ∧ Hid (PeV w' (Fresh w w') C p) ∧ Hid (Rd w' ra s' b') ∧ Hid (But (· = ra) w w') ∧ s'.size ≤ s.size ∧ Hid (Rel s.data.toList s'.data.toList b' p)
/-! Parentheses. -/
theorem reF_sub (x : List (List Pe)) : reF (.sub x .one) = .alt (reE x) := by rw [reF, withRep]
theorem wF_sub (x : List (List Pe)) : wF (.sub x .one) = 1 + wE x := by rw [wF]; simp only [wR]; omega
theorem par_ok {l r : List UInt8} {x : List (List Pe)} (h : ExRel l (41 :: r) false x) : ParRel l r false (.sub x .one) := by
  refine ⟨rfl, fun _ => ⟨?_, ?_⟩, fun h => (by cases h)⟩
  · rw [(h.ok rfl).1, reF_sub, closed, if_pos rfl]
  · have := (h.ok rfl).2.2
    rw [List.length_cons] at this
    rw [wF_sub]
    omega
theorem par_no {l l' : List UInt8} {b : Bool} {x : List (List Pe)} (h : ExRel l l' b x) (hb : beg [41] l' = false) : ParRel l [] true (.sub x .one) := by
  refine ⟨rfl, fun h => (by cases h), fun _ => ⟨?_, rfl⟩⟩
  cases b with
  | true => rw [(h.no rfl).1]; rfl
  | false =>
    obtain ⟨h1, h2, _⟩ := h.ok rfl
    rw [h1]
    rcases h2 with rfl | ⟨r, rfl⟩
    · rfl
    · exact absurd rfl (beg_one_no hb)
/-! Atoms. -/
theorem special_mem (c : UInt8) : [46, 91, 93, 40, 41, 124, 42, 43, 63, 92].contains c = special c := by
  unfold special
  simp only [List.contains_cons, List.contains_nil, Bool.or_false, Bool.or_assoc]
theorem atom_par {l r l' : List UInt8} {b : Bool} {p : Pe} (h : l = 40 :: r) (k : ParRel r l' b p) : AtomRel l l' b p := by
  subst h
  refine ⟨k.one, fun hb => ⟨?_, ?_⟩, fun hb => ⟨?_, (k.no hb).2⟩⟩
  · rw [ax_paren]; exact (k.ok hb).1
  · have := (k.ok hb).2
    rw [List.length_cons]
    omega
  · rw [ax_paren]; exact (k.no hb).1
theorem atom_cls {l r l' : List UInt8} {b : Bool} {f : UInt8 → Bool} (h : l = 91 :: r) (k : ClsRel r l' b f) : AtomRel l l' b (.cls f .one) := by
  subst h
  refine ⟨rfl, fun hb => ⟨?_, ?_⟩, fun hb => ⟨?_, (k.no hb).2⟩⟩
  · rw [ax_cls, reF_cls]; exact k.ok hb
  · have := cls_len (k.ok hb)
    rw [wF, List.length_cons]
    simp only [wR]
    omega
  · rw [ax_cls]; exact (k.no hb).1
theorem atom_dot {l r : List UInt8} (h : l = 46 :: r) : AtomRel l r false (.cls (fun _ => true) .one) := by
  subst h
  refine ⟨rfl, fun _ => ⟨?_, ?_⟩, fun hb => (by cases hb)⟩
  · rw [ax_dot, reF_cls]
  · rw [wF, List.length_cons]
    simp only [wR]
    omega
theorem atom_esc {l r l' : List UInt8} {b : Bool} {p : Pe} (h : l = 92 :: r) (k : EscRel r l' b p) : AtomRel l l' b p := by
  subst h
  refine ⟨?_, fun hb => ⟨?_, ?_⟩, fun hb => ⟨?_, (k.no hb).2⟩⟩
  · rcases k.form with ⟨c, rfl⟩ | ⟨f, rfl⟩ <;> rfl
  · rw [ax_esc]; exact k.ok hb
  · have h1 := escReAt_len (k.ok hb)
    rw [List.length_cons]
    rcases k.form with ⟨c, rfl⟩ | ⟨f, rfl⟩ <;> (rw [wF]; simp only [wR]; omega)
  · rw [ax_esc]; exact (k.no hb).1
theorem atom_byte {l r : List UInt8} {c : UInt8} (h : l = c :: r) (hs : special c = false) : AtomRel l r false (.byte c .one) := by
  subst h
  refine ⟨rfl, fun _ => ⟨?_, ?_⟩, fun hb => (by cases hb)⟩
  · rw [ax_byte r hs, reF_byte]
  · rw [wF, List.length_cons]
    simp only [wR]
    omega
theorem atom_bad {l r : List UInt8} {c : UInt8} {p : Pe} (hp : p.rp = .one) (h : l = c :: r) (hs : special c = true) (h1 : c ≠ 46) (h2 : c ≠ 92) (h3 : c ≠ 91) (h4 : c ≠ 40) : AtomRel l [] true p := by
  subst h
  exact ⟨hp, fun hb => (by cases hb), fun _ => ⟨ax_bad r hs h1 h2 h3 h4, rfl⟩⟩
/-! Factors. -/
def rpOf (c : UInt8) : Rp := if c = 42 then .star else if c = 43 then .plus else .opt
theorem rpOf_b {c : UInt8} (h : rep c = true) : (rpOf c).b = c := by
  unfold rep at h
  simp only [Bool.or_eq_true, beq_iff_eq] at h
  unfold rpOf
  rcases h with (rfl | rfl) | rfl <;> rfl
theorem withRep_of {n : Re} {c : UInt8} (h : rep c = true) : withRep n (rpOf c) = repRe n c := by
  unfold rep at h
  simp only [Bool.or_eq_true, beq_iff_eq] at h
  unfold rpOf repRe
  rcases h with (rfl | rfl) | rfl <;> rfl
theorem rep_mem (c : UInt8) : [42, 43, 63].contains c = rep c := by
  unfold rep
  simp only [List.contains_cons, List.contains_nil, Bool.or_false, Bool.or_assoc]
theorem wF_with {p : Pe} (h : p.rp = .one) (r : Rp) : wF (p.with r) ≤ wF p + 1 := by
  cases p <;> simp only [Pe.rp] at h <;> subst h <;> simp only [Pe.with, wF, wR] <;> cases r <;> simp only [] <;> omega
theorem fac_plain {l l' : List UInt8} {b : Bool} {p : Pe} (h : AtomRel l l' b p) (hb : beg [42, 43, 63] l' = false) : FacRel l l' b p := by
  refine ⟨fun h0 => ⟨(h.ok h0).2, _, _, (h.ok h0).1, .inl (post_plain fun c r e => ?_)⟩, h.no⟩
  rw [e] at hb
  rw [← rep_mem]
  exact hb
theorem fac_rep {l q : List UInt8} {b : Bool} {p : Pe} {c : UInt8} (h : AtomRel l (c :: q) b p) (hc : rep c = true) : FacRel l q b (p.with (rpOf c)) := by
  refine ⟨fun h0 => ?_, fun h0 => by cases (h.no h0).2⟩
  obtain ⟨h1, h2⟩ := h.ok h0
  rw [List.length_cons] at h2
  have h3 := wF_with h.one (rpOf c)
  refine ⟨by omega, _, _, h1, ?_⟩
  rw [reF_with _ h.one, withRep_of hc]
  match q with
  | [] => left; rw [post, if_pos hc]
  | d :: q =>
    cases hd : rep d with
    | true => right; exact ⟨by rw [post, if_pos hc, if_pos hd], d, q, rfl, hd⟩
    | false => left; rw [post, if_pos hc, if_neg (by rw [hd]; decide)]
theorem PeV.rep {w : World} {T : Nat → Prop} {C : List Value} {p : Pe} (h : PeV w T C p) (hp : p.rp = .one) (r : Rp) : PeV w T (C.set 259 (.int .u8 (r.b.toNat : Int))) (p.with r) := by
  cases p with
  | byte c q => rw [PeV] at h; rw [h]; show PeV w T _ (.byte c r); rw [PeV, facL_rep]
  | cls f q => rw [PeV] at h; rw [h]; show PeV w T _ (.cls f r); rw [PeV, facL_rep]
  | sub e q =>
    rw [PeV] at h
    obtain ⟨h0, b, cap, h1, h2, h3⟩ := h
    show PeV w T _ (.sub e r)
    rw [PeV, h1, facL_rep]
    exact ⟨h0, b, cap, rfl, h2, h3⟩
/-! Alternatives: the loop. -/
inductive AltSt (l : List UInt8) (now : List Pe) (l' : List UInt8) : Bool → Prop
  | go (h : ∀ outs, ex outs [] l = ex outs (reA now) l') (hw : wA now + l'.length ≤ l.length) : AltSt l now l' false
  | bad (h : ∀ outs, ex outs [] l = none) (d : UInt8) (q : List UInt8) (hl : l' = d :: q) (hd : rep d = true) (hw : wA now + l'.length ≤ l.length) : AltSt l now l' false
  | failed (h : ∀ outs, ex outs [] l = none) (hl : l' = []) : AltSt l now l' true
theorem AltSt.step {l now l' l2 b2} {p : Pe} (h : AltSt l now l' false) {c : UInt8} {r : List UInt8} (hl : l' = c :: r) (h1 : c ≠ 41) (h2 : c ≠ 124) (k : FacRel l' l2 b2 p) : AltSt l (now ++ [p]) l2 b2 := by
  subst hl
  cases h with
  | bad h d q hd1 hd hw =>
    injection hd1 with e1 e2
    subst e1 e2
    cases b2 with
    | true => exact .failed h (k.no rfl).2
    | false =>
      obtain ⟨_, n, r', h3, _⟩ := k.ok rfl
      have hs : special c = true := rep_special hd
      unfold rep at hd
      simp only [Bool.or_eq_true, beq_iff_eq] at hd
      rw [ax_bad _ hs (by rcases hd with (rfl | rfl) | rfl <;> decide) (by rcases hd with (rfl | rfl) | rfl <;> decide) (by rcases hd with (rfl | rfl) | rfl <;> decide) (by rcases hd with (rfl | rfl) | rfl <;> decide)] at h3
      cases h3
  | go h hw =>
    cases b2 with
    | true => exact .failed (fun outs => by rw [h]; exact ex_none h1 h2 (k.no rfl).1) (k.no rfl).2
    | false =>
      obtain ⟨hw2, n, r', h3, h4⟩ := k.ok rfl
      have hw3 : wA (now ++ [p]) + l2.length ≤ l.length := by rw [wA_append, wA_one]; omega
      rcases h4 with h4 | ⟨h4, d, q, h5, h6⟩
      · refine .go (fun outs => ?_) hw3
        rw [h, ex_step h1 h2 h3 h4, reA_append, reA_one]
      · exact .bad (fun outs => by rw [h]; exact ex_post h1 h2 h3 h4) d q h5 h6 hw3
theorem AltSt.end_ {l now l' b} (h : AltSt l now l' b) (hl : l' = [] ∨ (∃ r, l' = 41 :: r) ∨ ∃ r, l' = 124 :: r) : AltRel l l' b now := by
  cases h with
  | go h hw => exact ⟨fun _ => ⟨h, hl, hw⟩, fun h => (by cases h)⟩
  | bad h d q hd1 hd hw =>
    subst hd1
    exfalso
    rcases hl with e | ⟨r, e⟩ | ⟨r, e⟩
    · cases e
    · injection e with e1 e2; subst e1; revert hd; decide
    · injection e with e1 e2; subst e1; revert hd; decide
  | failed h hl2 => exact ⟨fun h => (by cases h), fun _ => ⟨h, hl2⟩⟩
theorem AltSt.count {l now l'} (h : AltSt l now l' false) : now.length + l'.length ≤ l.length := by
  have hl := wA_len now
  cases h with
  | go h hw => omega
  | bad h d q hd1 hd hw => omega
/-! Expressions: the loop. -/
inductive ExSt (l : List UInt8) (x : List (List Pe)) (l' : List UInt8) : Bool → Prop
  | go (now : List Pe) (outs : List (List Pe)) (hx : x = outs ++ [now]) (h : ex [] [] l = ex (reE outs) (reA now) l') (he : l' = [] ∨ (∃ r, l' = 41 :: r) ∨ ∃ r, l' = 124 :: r) (hw : wE x + l'.length ≤ l.length) (hn : x.length + l'.length ≤ l.length + 1) : ExSt l x l' false
  | failed (h : ex [] [] l = none) (hl : l' = []) (hn : x.length ≤ l.length + 1) : ExSt l x l' true
theorem ExSt.start {l l' : List UInt8} {b : Bool} {a : List Pe} (h : AltRel l l' b a) : ExSt l [a] l' b := by
  cases b with
  | true => exact .failed ((h.no rfl).1 []) (h.no rfl).2 (by rw [List.length_singleton]; omega)
  | false =>
    obtain ⟨h1, h2, h3⟩ := h.ok rfl
    exact .go a [] rfl (h1 []) h2 (by rw [wE_one]; exact h3) (by rw [List.length_singleton]; omega)
theorem ExSt.step {l r l2 : List UInt8} {x : List (List Pe)} {b2 : Bool} {a : List Pe} (h : ExSt l x (124 :: r) false) (k : AltRel r l2 b2 a) : ExSt l (x ++ [a]) l2 b2 := by
  cases h with
  | go now outs hx h he hw hn =>
    have e : ex (reE outs) (reA now) (124 :: r) = ex (reE x) [] r := by rw [ex_bar, hx, reE_append, reE_one]
    rw [e] at h
    rw [List.length_cons] at hw hn
    cases b2 with
    | true => exact .failed (h.trans ((k.no rfl).1 _)) (k.no rfl).2 (by rw [List.length_append, List.length_singleton]; omega)
    | false =>
      obtain ⟨h1, h2, h3⟩ := k.ok rfl
      exact .go a x rfl (h.trans (h1 _)) h2 (by rw [wE_append, wE_one]; omega) (by rw [List.length_append, List.length_singleton]; omega)
theorem ExSt.end_ {l l' : List UInt8} {x : List (List Pe)} {b : Bool} (h : ExSt l x l' b) (hb : beg [124] l' = false) : ExRel l l' b x := by
  cases h with
  | failed h hl _ => exact ⟨fun h => (by cases h), fun _ => ⟨h, hl⟩⟩
  | go now outs hx h he hw hn =>
    refine ⟨fun _ => ?_, fun h => (by cases h)⟩
    rcases he with rfl | ⟨r, rfl⟩ | ⟨r, rfl⟩
    · exact ⟨by rw [h, ex_nil, hx, reE_append, reE_one], .inl rfl, hw⟩
    · exact ⟨by rw [h, ex_close, hx, reE_append, reE_one], .inr ⟨r, rfl⟩, hw⟩
    · exact absurd rfl (beg_one_no hb)
theorem ExSt.few {l l' : List UInt8} {x : List (List Pe)} {b : Bool} (h : ExSt l x l' b) : x.length ≤ l.length + 1 := by
  cases h with
  | failed h hl hn => exact hn
  | go now outs hx h he hw hn => omega
theorem ExSt.count {l l' : List UInt8} {x : List (List Pe)} (h : ExSt l x l' false) : x.length + l'.length ≤ l.length + 1 := by cases h with | go now outs hx h he hw hn => exact hn
end Go.Proofs.Ytilfggnhaehbcaa.Rx
