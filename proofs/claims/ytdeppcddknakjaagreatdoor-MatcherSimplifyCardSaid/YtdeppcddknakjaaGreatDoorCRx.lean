
/- Layer 6, ahead: regular expressions: what they are, what they match, how they are read. Layer 6, ahead: the promises about operators, quoting, prefixes and emptiness, of expressions as lists. Layer 6, ahead: the machine of the reference, of expressions as lists. Layer 6, ahead: sets of states; what a machine's set says behind each byte. Layer 6, ahead: reading, step by step, without counting steps; what Find returns. Layer 6: the program's expressions and its automaton, of expressions as lists. Layer 6: what the program's automaton reads. Layer 6: the program's search: states that are reached, each with the least start. Layer 6: the program's search finds the leftmost longest part. -/
import Derived.Lib.Hide
set_option maxRecDepth 100000
set_option linter.unusedVariables false
set_option linter.unusedSimpArgs false
namespace Go.Proofs.YtdeppcddknakjaaGreatDoor.Rx
/-- An expression. 'byte': a byte or an escape that stands for one byte. -/
inductive Re where
 | byte (c : UInt8)
 | cls (f : UInt8 → Bool)
 | cat (l : List Re)
 | alt (l : List Re)
 | star (r : Re)
 | plus (r : Re)
/-- It matches. -/
inductive Mat : Re → List UInt8 → Prop
 | byte (c : UInt8) : Mat (.byte c) [c]
 | cls (f : UInt8 → Bool) (c : UInt8) (h : f c = true) : Mat (.cls f) [c]
 | cat_nil : Mat (.cat []) []
 | cat_cons {r : Re} {l : List Re} {a b : List UInt8} (h : Mat r a) (k : Mat (.cat l) b) : Mat (.cat (r :: l)) (a ++ b)
 | alt {r : Re} {l : List Re} {a : List UInt8} (hm : r ∈ l) (h : Mat r a) : Mat (.alt l) a
 | star_nil {r : Re} : Mat (.star r) []
 | star_cons {r : Re} {a b : List UInt8} (h : Mat r a) (k : Mat (.star r) b) : Mat (.star r) (a ++ b)
 | plus {r : Re} {a b : List UInt8} (h : Mat r a) (k : Mat (.star r) b) : Mat (.plus r) (a ++ b)
theorem mat_byte {c : UInt8} {s : List UInt8} : Mat (.byte c) s ↔ s = [c] :=
 ⟨fun h => by cases h; rfl, fun h => by subst h; exact .byte c⟩
theorem mat_cls {f : UInt8 → Bool} {s : List UInt8} : Mat (.cls f) s ↔ ∃ c, s = [c] ∧ f c = true :=
 ⟨fun h => by cases h with | cls _ c h => exact ⟨c, rfl, h⟩, fun ⟨c, hs, h⟩ => by subst hs; exact .cls f c h⟩
theorem mat_nil {s : List UInt8} : Mat (.cat []) s ↔ s = [] :=
 ⟨fun h => by cases h; rfl, fun h => by subst h; exact .cat_nil⟩
theorem mat_cons {r : Re} {l : List Re} {s : List UInt8} : Mat (.cat (r :: l)) s ↔ ∃ a b, s = a ++ b ∧ Mat r a ∧ Mat (.cat l) b :=
 ⟨fun h => by cases h with | cat_cons h k => exact ⟨_, _, rfl, h, k⟩, fun ⟨a, b, hs, h, k⟩ => by subst hs; exact .cat_cons h k⟩
theorem mat_alt {l : List Re} {s : List UInt8} : Mat (.alt l) s ↔ ∃ r ∈ l, Mat r s :=
 ⟨fun h => by cases h with | alt hm h => exact ⟨_, hm, h⟩, fun ⟨r, hm, h⟩ => .alt hm h⟩
theorem mat_alt1 {r : Re} {s : List UInt8} : Mat (.alt [r]) s ↔ Mat r s := by simp [mat_alt]
theorem mat_alt2 {r q : Re} {s : List UInt8} : Mat (.alt [r, q]) s ↔ Mat r s ∨ Mat q s := by simp [mat_alt]
theorem mat_plus {r : Re} {s : List UInt8} : Mat (.plus r) s ↔ ∃ a b, s = a ++ b ∧ Mat r a ∧ Mat (.star r) b :=
 ⟨fun h => by cases h with | plus h k => exact ⟨_, _, rfl, h, k⟩, fun ⟨a, b, hs, h, k⟩ => by subst hs; exact .plus h k⟩
/-! Reading. -/
def special (c : UInt8) : Bool := c == 46 || c == 91 || c == 93 || c == 40 || c == 41 || c == 124 || c == 42 || c == 43 || c == 63 || c == 92
def digit (c : UInt8) : Bool := decide (48 ≤ c.toNat ∧ c.toNat ≤ 57)
def alnum (c : UInt8) : Bool := decide ((97 ≤ c.toNat ∧ c.toNat ≤ 122) ∨ (65 ≤ c.toNat ∧ c.toNat ≤ 90)) || digit c
def word (c : UInt8) : Bool := alnum c || c == 95
def rep (c : UInt8) : Bool := c == 42 || c == 43 || c == 63
def esc (c : UInt8) : Option UInt8 := if c = 110 then some 10 else if c = 116 then some 9 else if alnum c = true then none else some c
def escRe (c : UInt8) : Option Re := if c = 100 then some (.cls digit) else if c = 119 then some (.cls word) else (esc c).map .byte
def escAt : List UInt8 → Option (UInt8 × List UInt8)
 | [] => none
 | d :: r => (esc d).map (fun x => (x, r))
def escReAt : List UInt8 → Option (Re × List UInt8)
 | [] => none
 | d :: r => (escRe d).map (fun n => (n, r))
def item : List UInt8 → Option (UInt8 × List UInt8)
 | [] => none
 | c :: r => if c = 93 then none else if c = 92 then escAt r else some (c, r)
def rangeEnd (lo : UInt8) : List UInt8 → Option (UInt8 × List UInt8)
 | [] => some (lo, [])
 | [c] => some (lo, [c])
 | c :: d :: r => if c = 45 ∧ d ≠ 93 then item (d :: r) else some (lo, c :: d :: r)
def addR (f : UInt8 → Bool) (lo hi : UInt8) (x : UInt8) : Bool := f x || decide (lo.toNat ≤ x.toNat ∧ x.toNat ≤ hi.toNat)
def brk : Nat → (UInt8 → Bool) → Bool → List UInt8 → Option ((UInt8 → Bool) × List UInt8)
 | 0, _, _, _ => none
 | _ + 1, _, _, [] => none
 | k + 1, f, first, c :: r =>
  if c = 93 then (if first = true then none else some (f, r)) else
  match item (c :: r) with
  | none => none
  | some (lo, r1) =>
   match rangeEnd lo r1 with
   | none => none
   | some (hi, r2) => if hi.toNat < lo.toNat then none else brk k (addR f lo hi) false r2
def none_ : UInt8 → Bool := fun _ => false
def cls (l : List UInt8) : Option (Re × List UInt8) :=
 match l with
 | [] => none
 | c :: r => if c = 94 then (brk (r.length + 1) none_ true r).map (fun q => (.cls (fun x => !q.1 x), q.2)) else (brk (r.length + 2) none_ true (c :: r)).map (fun q => (.cls q.1, q.2))
/-- Behind an expression in parentheses. -/
def closed : Option (Re × List UInt8) → Option (Re × List UInt8)
 | some (n, d :: r) => if d = 41 then some (n, r) else none
 | _ => none
def atom (pe : List UInt8 → Option (Re × List UInt8)) : List UInt8 → Option (Re × List UInt8)
 | [] => none
 | c :: r =>
  if special c = false then some (.byte c, r)
  else if c = 46 then some (.cls (fun _ => true), r)
  else if c = 92 then escReAt r
  else if c = 91 then cls r
  else if c = 40 then closed (pe r)
  else none
def repRe (n : Re) (c : UInt8) : Re := if c = 42 then .star n else if c = 43 then .plus n else .alt [.cat [], n]
def post (n : Re) : List UInt8 → Option (Re × List UInt8)
 | [] => some (n, [])
 | [c] => if rep c = true then some (repRe n c, []) else some (n, [c])
 | c :: d :: r => if rep c = true then (if rep d = true then none else some (repRe n c, d :: r)) else some (n, c :: d :: r)
def pe : Nat → List Re → List Re → List UInt8 → Option (Re × List UInt8)
 | 0, _, _, _ => none
 | _ + 1, outs, now, [] => some (.alt (outs ++ [.cat now]), [])
 | k + 1, outs, now, c :: r =>
  if c = 41 then some (.alt (outs ++ [.cat now]), c :: r)
  else if c = 124 then pe k (outs ++ [.cat now]) [] r
  else match atom (pe k [] []) (c :: r) with
   | none => none
   | some (n, r1) =>
    match post n r1 with
    | none => none
    | some (n', r2) => pe k outs (now ++ [n']) r2
/-- A regular expression without its limit. -/
def parse (l : List UInt8) : Option Re :=
 match pe (l.length + 1) [] [] l with
 | some (r, []) => some r
 | _ => none
/-! With more behind it. -/
theorem escAt_len {l r : List UInt8} {c : UInt8} (h : escAt l = some (c, r)) : r.length + 1 ≤ l.length := by
 cases l with
 | nil => cases h
 | cons d l =>
  rw [escAt] at h
  cases he : esc d with
  | none => rw [he] at h; cases h
  | some y => rw [he] at h; cases h; simp
theorem escReAt_len {l r : List UInt8} {n : Re} (h : escReAt l = some (n, r)) : r.length + 1 ≤ l.length := by
 cases l with
 | nil => cases h
 | cons d l =>
  rw [escReAt] at h
  cases he : escRe d with
  | none => rw [he] at h; cases h
  | some y => rw [he] at h; cases h; simp
theorem item_len {l r : List UInt8} {c : UInt8} (h : item l = some (c, r)) : r.length + 1 ≤ l.length := by
 cases l with
 | nil => cases h
 | cons x l =>
  rw [item] at h
  split at h
  ·cases h
  ·split at h
   ·have := escAt_len h
    rw [List.length_cons]
    omega
   ·cases h; simp
theorem range_len {l r : List UInt8} {lo hi : UInt8} (h : rangeEnd lo l = some (hi, r)) : r.length ≤ l.length := by
 match l with
 | [] => cases h; simp
 | [c] => cases h; simp
 | c :: d :: l =>
  rw [rangeEnd] at h
  split at h
  ·have := item_len h
   simp only [List.length_cons] at this ⊢
   omega
  ·cases h; simp
theorem brk_len : ∀ (k : Nat) (f : UInt8 → Bool) (b : Bool) (l r : List UInt8) (g : UInt8 → Bool), brk k f b l = some (g, r) → r.length + 1 ≤ l.length
 | 0, _, _, _, _, _, h => by cases h
 | k + 1, f, b, [], r, g, h => by cases h
 | k + 1, f, b, c :: l, r, g, h => by
  rw [brk] at h
  split at h
  ·split at h
   ·cases h
   ·cases h; simp
  ·cases hi : item (c :: l) with
   | none => rw [hi] at h; cases h
   | some q =>
    obtain ⟨lo, r1⟩ := q
    rw [hi] at h
    simp only at h
    cases hr : rangeEnd lo r1 with
    | none => rw [hr] at h; cases h
    | some q =>
     obtain ⟨hi', r2⟩ := q
     rw [hr] at h
     simp only at h
     split at h
     ·cases h
     ·have h1 := item_len hi
      have h2 := range_len hr
      have h3 := brk_len k _ _ r2 r g h
      omega
theorem cls_len {l r : List UInt8} {n : Re} (h : cls l = some (n, r)) : r.length + 1 ≤ l.length := by
 cases l with
 | nil => cases h
 | cons c l =>
  unfold cls at h
  simp only at h
  split at h
  ·cases hb : brk (l.length + 1) none_ true l with
   | none => rw [hb] at h; cases h
   | some q =>
    obtain ⟨g, r'⟩ := q
    rw [hb] at h
    cases h
    have := brk_len _ _ _ _ _ _ hb
    show r'.length + 1 ≤ (c :: l).length
    rw [List.length_cons]
    omega
  ·cases hb : brk (l.length + 2) none_ true (c :: l) with
   | none => rw [hb] at h; cases h
   | some q =>
    obtain ⟨g, r'⟩ := q
    rw [hb] at h
    cases h
    exact brk_len _ _ _ _ _ _ hb
theorem post_len {n n' : Re} {l r : List UInt8} (h : post n l = some (n', r)) : r.length ≤ l.length := by
 match l with
 | [] => cases h; simp
 | [c] =>
  rw [post] at h
  split at h <;> cases h <;> simp
 | c :: d :: l =>
  rw [post] at h
  split at h
  ·split at h
   ·cases h
   ·cases h; simp
  ·cases h; simp
/-- One step: an atom and what repeats it. -/
theorem pe_step {k : Nat} {outs now : List Re} {c : UInt8} {l r1 r2 : List UInt8} {n n' : Re} (h1 : c ≠ 41) (h2 : c ≠ 124) (ha : atom (pe k [] []) (c :: l) = some (n, r1)) (hp : post n r1 = some (n', r2)) : pe (k + 1) outs now (c :: l) = pe k outs (now ++ [n']) r2 := by
 rw [pe, if_neg h1, if_neg h2, ha]
 simp only
 rw [hp]
theorem pe_bar {k : Nat} {outs now : List Re} {l : List UInt8} : pe (k + 1) outs now (124 :: l) = pe k (outs ++ [.cat now]) [] l := by
 rw [pe, if_neg (by decide), if_pos rfl]
end Go.Proofs.YtdeppcddknakjaaGreatDoor.Rx
namespace Go.Proofs.YtdeppcddknakjaaGreatDoor.Rx
/-! Quoting. -/
theorem rep_special {c : UInt8} (h : rep c = true) : special c = true := by
 unfold rep at h
 unfold special
 simp only [Bool.or_eq_true, beq_iff_eq] at h ⊢
 rcases h with (h | h) | h <;> simp [h]
theorem post_plain {n : Re} {l : List UInt8} (h : ∀ c r, l = c :: r → rep c = false) : post n l = some (n, l) := by
 match l with
 | [] => rfl
 | [c] => rw [post, if_neg (by rw [h c [] rfl]; decide)]
 | c :: d :: r => rw [post, if_neg (by rw [h c (d :: r) rfl]; decide)]
/-! Prefixes. -/
def leadB : List Re → List UInt8 × Bool
 | [] => ([], true)
 | .byte c :: l => (c :: (leadB l).1, (leadB l).2)
 | _ :: _ => ([], false)
def prefix_ : Re → List UInt8 × Bool
 | .alt [.cat l] => leadB l
 | _ => ([], false)
theorem lead_mat : ∀ (l : List Re) (s : List UInt8), Mat (.cat l) s → (leadB l).1 <+: s ∧ ((leadB l).2 = true → s = (leadB l).1)
 | [], s, h => by
  rw [mat_nil] at h
  subst h
  exact ⟨List.prefix_refl _, fun _ => rfl⟩
 | r :: l, s, h => by
  cases r with
  | byte c =>
   rw [mat_cons] at h
   obtain ⟨a, b, rfl, h1, h2⟩ := h
   rw [mat_byte] at h1
   subst h1
   obtain ⟨k1, k2⟩ := lead_mat l b h2
   exact ⟨(List.prefix_append_right_inj [c]).2 k1, fun e => by
    rw [k2 e]
    rfl⟩
  | _ => exact ⟨List.nil_prefix, fun e => by cases e⟩
theorem lead_all : ∀ (l : List Re), (leadB l).2 = true → Mat (.cat l) (leadB l).1
 | [], _ => .cat_nil
 | r :: l, h => by
  cases r with
  | byte c => exact mat_cons.2 ⟨[c], _, rfl, mat_byte.2 rfl, lead_all l h⟩
  | _ => cases h
theorem prefix_cases (r : Re) : (∃ l, r = .alt [.cat l] ∧ prefix_ r = leadB l) ∨ prefix_ r = ([], false) := by
 unfold prefix_
 split
 ·exact .inl ⟨_, rfl, rfl⟩
 ·exact .inr rfl
theorem prefix_mat {r : Re} {s : List UInt8} (h : Mat r s) : (prefix_ r).1 <+: s := by
 rcases prefix_cases r with ⟨l, rfl, e⟩ | e
 ·rw [e]; exact (lead_mat l s (mat_alt1.1 h)).1
 ·rw [e]; exact List.nil_prefix
/-! Emptiness. -/
def noneIn (f : UInt8 → Bool) : Bool := (List.range 256).all fun k => !f (UInt8.ofNat k)
mutual
def emptyR : Re → Bool
 | .byte _ => false
 | .cls f => noneIn f
 | .cat l => anyE l
 | .alt l => allE l
 | .star _ => false
 | .plus r => emptyR r
def anyE : List Re → Bool
 | [] => false
 | r :: l => emptyR r || anyE l
def allE : List Re → Bool
 | [] => true
 | r :: l => emptyR r && allE l
end
theorem noneIn_iff {f : UInt8 → Bool} (h : noneIn f = true) (c : UInt8) : f c = false := by
 have h1 := List.all_eq_true.1 h c.toNat (List.mem_range.2 c.toNat_lt)
 simpa using h1
end Go.Proofs.YtdeppcddknakjaaGreatDoor.Rx
namespace Go.Proofs.YtdeppcddknakjaaGreatDoor.Rx
structure St where
 reads : Bool
 set : UInt8 → Bool
 next : List Nat
mutual
/-- The states of an expression behind m; nx comes after it. -/
def comp : Re → List St → Nat → Nat × List St
 | .byte c, m, nx => (m.length, m ++ [⟨true, fun x => x == c, [nx]⟩])
 | .cls f, m, nx => (m.length, m ++ [⟨true, f, [nx]⟩])
 | .cat l, m, nx => compC l m nx
 | .alt l, m, nx => ((compA l m nx).2.length, (compA l m nx).2 ++ [⟨false, none_, (compA l m nx).1⟩])
 | .star r, m, nx => (m.length, (comp r (m ++ [⟨false, none_, []⟩]) m.length).2.set m.length ⟨false, none_, [(comp r (m ++ [⟨false, none_, []⟩]) m.length).1, nx]⟩)
 | .plus r, m, nx => ((comp r (m ++ [⟨false, none_, []⟩]) m.length).1, (comp r (m ++ [⟨false, none_, []⟩]) m.length).2.set m.length ⟨false, none_, [(comp r (m ++ [⟨false, none_, []⟩]) m.length).1, nx]⟩)
def compC : List Re → List St → Nat → Nat × List St
 | [], m, nx => (nx, m)
 | r :: l, m, nx => comp r (compC l m nx).2 (compC l m nx).1
def compA : List Re → List St → Nat → List Nat × List St
 | [], m, nx => ([], m)
 | r :: l, m, nx => ((comp r m nx).1 :: (compA l (comp r m nx).2 nx).1, (compA l (comp r m nx).2 nx).2)
end
/-- m' holds m and more. -/
structure Ext (m m' : List St) : Prop where
 len : m.length ≤ m'.length
 old : ∀ i, i < m.length → m'[i]? = m[i]?
theorem Ext.refl (m : List St) : Ext m m := ⟨Nat.le_refl _, fun _ _ => rfl⟩
theorem Ext.trans {a b c : List St} (h : Ext a b) (k : Ext b c) : Ext a c := ⟨Nat.le_trans h.len k.len, fun i hi => (k.old i (Nat.lt_of_lt_of_le hi h.len)).trans (h.old i hi)⟩
theorem Ext.snoc (m : List St) (x : St) : Ext m (m ++ [x]) := ⟨by simp, fun i hi => List.getElem?_append_left hi⟩
theorem Ext.set {m m' : List St} (h : Ext m m') (x : St) : Ext m (m'.set m.length x) := ⟨by rw [List.length_set]; exact h.len, fun i hi => by rw [List.getElem?_set_ne (by omega)]; exact h.old i hi⟩
mutual
theorem comp_ext : ∀ (r : Re) (m : List St) (nx : Nat), Ext m (comp r m nx).2
 | .byte c, m, nx => Ext.snoc _ _
 | .cls f, m, nx => Ext.snoc _ _
 | .cat l, m, nx => by rw [comp]; exact compC_ext l m nx
 | .alt l, m, nx => by rw [comp]; exact (compA_ext l m nx).trans (Ext.snoc _ _)
 | .star r, m, nx => by rw [comp]; exact ((Ext.snoc m _).trans (comp_ext r _ _)).set _
 | .plus r, m, nx => by rw [comp]; exact ((Ext.snoc m _).trans (comp_ext r _ _)).set _
theorem compC_ext : ∀ (l : List Re) (m : List St) (nx : Nat), Ext m (compC l m nx).2
 | [], m, nx => Ext.refl m
 | r :: l, m, nx => by rw [compC]; exact (compC_ext l m nx).trans (comp_ext r _ _)
theorem compA_ext : ∀ (l : List Re) (m : List St) (nx : Nat), Ext m (compA l m nx).2
 | [], m, nx => Ext.refl m
 | r :: l, m, nx => by rw [compA]; exact (comp_ext r m nx).trans (compA_ext l _ nx)
end
/-- A way of k steps from state i to the last one, reading s. -/
inductive AccN (M : List St) : Nat → Nat → List UInt8 → Prop
 | done : AccN M 0 0 []
 | eps {k i j : Nat} {s : List UInt8} {st : St} (hi : M[i]? = some st) (hr : st.reads = false) (hj : j ∈ st.next) (h : AccN M k j s) : AccN M (k + 1) i s
 | read {k i j : Nat} {c : UInt8} {s : List UInt8} {st : St} (hi : M[i]? = some st) (hr : st.reads = true) (hc : st.set c = true) (hj : st.next = [j]) (h : AccN M k j s) : AccN M (k + 1) i (c :: s)
def Acc (M : List St) (i : Nat) (s : List UInt8) : Prop := ∃ k, AccN M k i s
/-- M holds the states of m' behind those of m. -/
def Has (M m m' : List St) : Prop := ∀ i, m.length ≤ i → i < m'.length → M[i]? = m'[i]?
theorem Has.ext {M m a b : List St} (h : Has M m b) (k : Ext a b) : Has M m a := fun i h1 h2 => (h i h1 (Nat.lt_of_lt_of_le h2 k.len)).trans (k.old i h2)
theorem Has.front {M m a b : List St} (h : Has M m b) (k : m.length ≤ a.length) : Has M a b := fun i h1 h2 => h i (Nat.le_trans k h1) h2
theorem Has.last {M m a : List St} {x : St} (h : Has M m (a ++ [x])) (k : m.length ≤ a.length) : M[a.length]? = some x := by rw [h a.length k (by simp)]; simp
theorem Has.top {M m b : List St} {x : St} (h : Has M m (b.set m.length x)) (k : m.length < b.length) : M[m.length]? = some x := by
 rw [h m.length (Nat.le_refl _) (by rw [List.length_set]; exact k), List.getElem?_set_self k]
theorem Has.rest {M m b : List St} {x y : St} (h : Has M m (b.set m.length x)) : Has M (m ++ [y]) b := fun i h1 h2 => by
 rw [List.length_append, List.length_singleton] at h1
 rw [h i (by omega) (by rw [List.length_set]; exact h2), List.getElem?_set_ne (by omega)]
/-- A state that goes on without reading. -/
theorem AccN.go {M : List St} {k i : Nat} {s : List UInt8} {st : St} (h0 : 0 < i) (hi : M[i]? = some st) (hr : st.reads = false) (h : AccN M k i s) : ∃ j k', j ∈ st.next ∧ k = k' + 1 ∧ AccN M k' j s := by
 cases h with
 | done => omega
 | eps hi2 hr2 hj h =>
  rw [hi] at hi2
  cases hi2
  exact ⟨_, _, hj, rfl, h⟩
 | read hi2 hr2 hc hj h =>
  rw [hi] at hi2
  cases hi2
  rw [hr] at hr2
  cases hr2
theorem AccN.take {M : List St} {k i j : Nat} {s : List UInt8} {st : St} (h0 : 0 < i) (hi : M[i]? = some st) (hr : st.reads = true) (hj : st.next = [j]) (h : AccN M k i s) : ∃ c r k', s = c :: r ∧ st.set c = true ∧ k = k' + 1 ∧ AccN M k' j r := by
 cases h with
 | done => omega
 | eps hi2 hr2 hj h =>
  rw [hi] at hi2
  cases hi2
  rw [hr] at hr2
  cases hr2
 | read hi2 hr2 hc hj2 h =>
  rw [hi] at hi2
  cases hi2
  rw [hj] at hj2
  cases hj2
  exact ⟨_, _, _, rfl, hc, rfl, h⟩
/-- What is read from an expression's first state on: something that it matches, then from nx on. -/
def Snd (M : List St) (P : List UInt8 → Prop) (i nx : Nat) : Prop := ∀ k s, AccN M k i s → ∃ a b j, s = a ++ b ∧ P a ∧ j ≤ k ∧ AccN M j nx b
theorem star_snd {M : List St} {r : Re} {t f nx : Nat} {st : St} (h0 : 0 < t) (ht : M[t]? = some st) (hr : st.reads = false) (hn : st.next = [f, nx]) (h : Snd M (Mat r) f t) : Snd M (Mat (.star r)) t nx := by
 intro k
 induction k using Nat.strongRecOn with
 | _ k ih =>
  intro s hs
  obtain ⟨j, k', hj, rfl, h1⟩ := hs.go h0 ht hr
  rw [hn] at hj
  simp only [List.mem_cons, List.not_mem_nil, or_false] at hj
  rcases hj with rfl | rfl
  ·obtain ⟨a, b, j, rfl, ha, hjk, hb⟩ := h _ _ h1
   obtain ⟨a2, b2, j2, rfl, ha2, hj2, hb2⟩ := ih j (by omega) b hb
   exact ⟨a ++ a2, b2, j2, by rw [List.append_assoc], .star_cons ha ha2, by omega, hb2⟩
  ·exact ⟨[], s, k', rfl, .star_nil, by omega, h1⟩
mutual
theorem comp_snd : ∀ (r : Re) (m : List St) (nx : Nat) (M : List St), Has M m (comp r m nx).2 → 0 < m.length → Snd M (Mat r) (comp r m nx).1 nx
 | .byte c, m, nx, M, h, h0 => by
  intro k s hs
  rw [comp] at h hs
  obtain ⟨x, r, k', rfl, hc, rfl, h1⟩ := hs.take h0 (h.last (Nat.le_refl _)) rfl rfl
  have e : x = c := by simpa using hc
  subst e
  exact ⟨[x], r, k', rfl, .byte x, by omega, h1⟩
 | .cls f, m, nx, M, h, h0 => by
  intro k s hs
  rw [comp] at h hs
  obtain ⟨x, r, k', rfl, hc, rfl, h1⟩ := hs.take h0 (h.last (Nat.le_refl _)) rfl rfl
  exact ⟨[x], r, k', rfl, .cls f x hc, by omega, h1⟩
 | .cat l, m, nx, M, h, h0 => by rw [comp] at h ⊢; exact compC_snd l m nx M h h0
 | .alt l, m, nx, M, h, h0 => by
  intro k s hs
  rw [comp] at h hs
  have hl := (compA_ext l m nx).len
  obtain ⟨j, k', hj, rfl, h1⟩ := hs.go (by show 0 < (compA l m nx).2.length; omega) (h.last hl) rfl
  obtain ⟨r, hr, hS⟩ := compA_snd l m nx M (h.ext (Ext.snoc _ _)) h0 j hj
  obtain ⟨a, b, j', rfl, ha, hjk, hb⟩ := hS _ _ h1
  exact ⟨a, b, j', rfl, .alt hr ha, by omega, hb⟩
 | .star r, m, nx, M, h, h0 => by
  rw [comp] at h ⊢
  have hl := (comp_ext r (m ++ [⟨false, none_, []⟩]) m.length).len
  rw [List.length_append, List.length_singleton] at hl
  exact star_snd h0 (h.top (by omega)) rfl rfl (comp_snd r _ _ M h.rest (by simp))
 | .plus r, m, nx, M, h, h0 => by
  intro k s hs
  rw [comp] at h hs
  have hl := (comp_ext r (m ++ [⟨false, none_, []⟩]) m.length).len
  rw [List.length_append, List.length_singleton] at hl
  have hS := comp_snd r _ _ M h.rest (by simp)
  obtain ⟨a, b, j, rfl, ha, hjk, hb⟩ := hS _ _ hs
  obtain ⟨a2, b2, j2, rfl, ha2, hj2, hb2⟩ := star_snd h0 (h.top (by omega)) rfl rfl hS _ _ hb
  exact ⟨a ++ a2, b2, j2, by rw [List.append_assoc], .plus ha ha2, by omega, hb2⟩
theorem compC_snd : ∀ (l : List Re) (m : List St) (nx : Nat) (M : List St), Has M m (compC l m nx).2 → 0 < m.length → Snd M (Mat (.cat l)) (compC l m nx).1 nx
 | [], m, nx, M, h, h0 => fun k s hs => ⟨[], s, k, rfl, .cat_nil, Nat.le_refl _, hs⟩
 | r :: l, m, nx, M, h, h0 => by
  intro k s hs
  rw [compC] at h hs
  have hl := (compC_ext l m nx).len
  obtain ⟨a, b, j, rfl, ha, hjk, hb⟩ := comp_snd r _ _ M (h.front hl) (by omega) _ _ hs
  obtain ⟨a2, b2, j2, rfl, ha2, hj2, hb2⟩ := compC_snd l m nx M (h.ext (comp_ext r _ _)) h0 _ _ hb
  exact ⟨a ++ a2, b2, j2, by rw [List.append_assoc], .cat_cons ha ha2, by omega, hb2⟩
theorem compA_snd : ∀ (l : List Re) (m : List St) (nx : Nat) (M : List St), Has M m (compA l m nx).2 → 0 < m.length → ∀ i ∈ (compA l m nx).1, ∃ r ∈ l, Snd M (Mat r) i nx
 | [], m, nx, M, h, h0 => fun i hi => by cases hi
 | r :: l, m, nx, M, h, h0 => by
  intro i hi
  rw [compA] at h hi
  have hl := (comp_ext r m nx).len
  rcases List.mem_cons.1 hi with rfl | hi
  ·exact ⟨r, by simp, comp_snd r m nx M (h.ext (compA_ext l _ nx)) h0⟩
  ·obtain ⟨q, hq, hS⟩ := compA_snd l (comp r m nx).2 nx M (h.front hl) (by omega) i hi
   exact ⟨q, by simp [hq], hS⟩
end
/-! The other direction. -/
theorem Acc.eps {M : List St} {i j : Nat} {s : List UInt8} {st : St} (hi : M[i]? = some st) (hr : st.reads = false) (hj : j ∈ st.next) (h : Acc M j s) : Acc M i s := by
 obtain ⟨k, h⟩ := h
 exact ⟨_, .eps hi hr hj h⟩
theorem Acc.read {M : List St} {i j : Nat} {c : UInt8} {s : List UInt8} {st : St} (hi : M[i]? = some st) (hr : st.reads = true) (hc : st.set c = true) (hj : st.next = [j]) (h : Acc M j s) : Acc M i (c :: s) := by
 obtain ⟨k, h⟩ := h
 exact ⟨_, .read hi hr hc hj h⟩
def Cpl (M : List St) (P : List UInt8 → Prop) (i nx : Nat) : Prop := ∀ a b, P a → Acc M nx b → Acc M i (a ++ b)
theorem star_cpl {M : List St} {r : Re} {t f nx : Nat} {st : St} (ht : M[t]? = some st) (hr : st.reads = false) (hn : st.next = [f, nx]) (h : Cpl M (Mat r) f t) : Cpl M (Mat (.star r)) t nx := by
 intro a b ha hb
 generalize hq : Re.star r = q at ha
 induction ha with
 | star_nil => exact Acc.eps ht hr (by rw [hn]; simp) hb
 | @star_cons r' x y hx hy ih1 ih2 =>
  cases hq
  rw [List.append_assoc]
  exact Acc.eps ht hr (by rw [hn]; simp) (h _ _ hx (ih2 rfl))
 | _ => cases hq
mutual
theorem comp_cpl : ∀ (r : Re) (m : List St) (nx : Nat) (M : List St), Has M m (comp r m nx).2 → Cpl M (Mat r) (comp r m nx).1 nx
 | .byte c, m, nx, M, h => by
  intro a b ha hb
  rw [comp] at h ⊢
  rw [mat_byte] at ha
  subst ha
  exact Acc.read (h.last (Nat.le_refl _)) rfl (by simp) rfl hb
 | .cls f, m, nx, M, h => by
  intro a b ha hb
  rw [comp] at h ⊢
  obtain ⟨c, rfl, hc⟩ := mat_cls.1 ha
  exact Acc.read (h.last (Nat.le_refl _)) rfl hc rfl hb
 | .cat l, m, nx, M, h => by rw [comp] at h ⊢; exact compC_cpl l m nx M h
 | .alt l, m, nx, M, h => by
  intro a b ha hb
  rw [comp] at h ⊢
  obtain ⟨r, hr, ha⟩ := mat_alt.1 ha
  obtain ⟨i, hi, hC⟩ := compA_cpl l m nx M (h.ext (Ext.snoc _ _)) r hr
  exact Acc.eps (h.last (compA_ext l m nx).len) rfl hi (hC a b ha hb)
 | .star r, m, nx, M, h => by
  rw [comp] at h ⊢
  have hl := (comp_ext r (m ++ [⟨false, none_, []⟩]) m.length).len
  rw [List.length_append, List.length_singleton] at hl
  exact star_cpl (h.top (by omega)) rfl rfl (comp_cpl r _ _ M h.rest)
 | .plus r, m, nx, M, h => by
  intro a b ha hb
  rw [comp] at h ⊢
  have hl := (comp_ext r (m ++ [⟨false, none_, []⟩]) m.length).len
  rw [List.length_append, List.length_singleton] at hl
  have hC := comp_cpl r _ _ M h.rest
  obtain ⟨x, y, rfl, hx, hy⟩ := mat_plus.1 ha
  rw [List.append_assoc]
  exact hC _ _ hx (star_cpl (h.top (by omega)) rfl rfl hC _ _ hy hb)
theorem compC_cpl : ∀ (l : List Re) (m : List St) (nx : Nat) (M : List St), Has M m (compC l m nx).2 → Cpl M (Mat (.cat l)) (compC l m nx).1 nx
 | [], m, nx, M, h => fun a b ha hb => by rw [mat_nil] at ha; subst ha; exact hb
 | r :: l, m, nx, M, h => by
  intro a b ha hb
  rw [compC] at h ⊢
  obtain ⟨x, y, rfl, hx, hy⟩ := mat_cons.1 ha
  rw [List.append_assoc]
  exact comp_cpl r _ _ M (h.front (compC_ext l m nx).len) _ _ hx (compC_cpl l m nx M (h.ext (comp_ext r _ _)) _ _ hy hb)
theorem compA_cpl : ∀ (l : List Re) (m : List St) (nx : Nat) (M : List St), Has M m (compA l m nx).2 → ∀ r ∈ l, ∃ i ∈ (compA l m nx).1, Cpl M (Mat r) i nx
 | [], m, nx, M, h => fun r hr => by cases hr
 | q :: l, m, nx, M, h => by
  intro r hr
  rw [compA] at h ⊢
  rcases List.mem_cons.1 hr with e | hr
  ·exact ⟨(comp q m nx).1, by simp, by rw [e]; exact comp_cpl q m nx M (h.ext (compA_ext l _ nx))⟩
  ·obtain ⟨i, hi, hC⟩ := compA_cpl l (comp q m nx).2 nx M (h.front (comp_ext q m nx).len) r hr
   exact ⟨i, by simp [hi], hC⟩
end
/-- The machine: one last state, then the expression's. -/
def mach (r : Re) : List St := (comp r [⟨false, none_, []⟩] 0).2
def start (r : Re) : Nat := (comp r [⟨false, none_, []⟩] 0).1
theorem mach_zero (r : Re) : (mach r)[0]? = some ⟨false, none_, []⟩ := (comp_ext r [⟨false, none_, []⟩] 0).old 0 (by simp)
theorem acc_zero {r : Re} {s : List UInt8} : Acc (mach r) 0 s ↔ s = [] := by
 constructor
 ·rintro ⟨k, h⟩
  cases h with
  | done => rfl
  | eps hi hr hj h => rw [mach_zero] at hi; cases hi; cases hj
  | read hi hr hc hj h => rw [mach_zero] at hi; cases hi; cases hr
 ·rintro rfl
  exact ⟨0, .done⟩
theorem mach_mat (r : Re) (s : List UInt8) : Acc (mach r) (start r) s ↔ Mat r s := by
 constructor
 ·rintro ⟨k, h⟩
  obtain ⟨a, b, j, rfl, ha, _, hb⟩ := comp_snd r [⟨false, none_, []⟩] 0 (mach r) (fun _ _ _ => rfl) (by simp) k s h
  rw [acc_zero.1 ⟨j, hb⟩, List.append_nil]
  exact ha
 ·intro h
  have h1 := comp_cpl r [⟨false, none_, []⟩] 0 (mach r) (fun _ _ _ => rfl) s [] h (acc_zero.2 rfl)
  rwa [List.append_nil] at h1
end Go.Proofs.YtdeppcddknakjaaGreatDoor.Rx
namespace Go.Proofs.YtdeppcddknakjaaGreatDoor.Rx
/-- Without reading, from i to j. -/
inductive Eps (M : List St) (i : Nat) : Nat → Prop
 | refl : Eps M i i
 | step {j l : Nat} {st : St} (h : Eps M i j) (hi : M[j]? = some st) (hr : st.reads = false) (hl : l ∈ st.next) : Eps M i l
theorem Eps.trans {M : List St} {i j l : Nat} (h : Eps M i j) (k : Eps M j l) : Eps M i l := by
 induction k with
 | refl => exact h
 | step _ hi hr hl ih => exact .step ih hi hr hl
theorem Eps.head {M : List St} {i j l : Nat} {st : St} (hi : M[i]? = some st) (hr : st.reads = false) (hj : j ∈ st.next) (h : Eps M j l) : Eps M i l := Eps.trans (.step .refl hi hr hj) h
/-- From i to j, reading s. -/
inductive Run (M : List St) (i : Nat) : List UInt8 → Nat → Prop
 | refl : Run M i [] i
 | eps {s : List UInt8} {j l : Nat} {st : St} (h : Run M i s j) (hi : M[j]? = some st) (hr : st.reads = false) (hl : l ∈ st.next) : Run M i s l
 | read {s : List UInt8} {j l : Nat} {st : St} {c : UInt8} (h : Run M i s j) (hi : M[j]? = some st) (hr : st.reads = true) (hc : st.set c = true) (hl : st.next = [l]) : Run M i (s ++ [c]) l
theorem Run.eps_ {M : List St} {i j l : Nat} {s : List UInt8} (h : Run M i s j) (k : Eps M j l) : Run M i s l := by
 induction k with
 | refl => exact h
 | step _ hi hr hl ih => exact .eps ih hi hr hl
theorem Run.trans {M : List St} {i j l : Nat} {s t : List UInt8} (h : Run M i s j) (k : Run M j t l) : Run M i (s ++ t) l := by
 induction k with
 | refl => rwa [List.append_nil]
 | eps _ hi hr hl ih => exact .eps ih hi hr hl
 | read _ hi hr hc hl ih => rw [← List.append_assoc]; exact .read ih hi hr hc hl
theorem Run.acc {M : List St} {i j : Nat} {s t : List UInt8} (h : Run M i s j) (k : Acc M j t) : Acc M i (s ++ t) := by
 induction h generalizing t with
 | refl => exact k
 | eps _ hi hr hl ih => exact ih (Acc.eps hi hr hl k)
 | read _ hi hr hc hl ih => rw [List.append_assoc]; exact ih (Acc.read hi hr hc hl k)
theorem AccN.run {M : List St} {k i : Nat} {s : List UInt8} (h : AccN M k i s) : Run M i s 0 := by
 induction h with
 | done => exact .refl
 | eps hi hr hj _ ih => exact Run.trans (s := []) (.eps .refl hi hr hj) ih
 | @read k i j c s st hi hr hc hj _ ih => exact Run.trans (s := [c]) (Run.read (s := []) .refl hi hr hc hj) ih
theorem acc_run {M : List St} {i : Nat} {s : List UInt8} : Acc M i s ↔ Run M i s 0 :=
 ⟨fun ⟨k, h⟩ => h.run, fun h => by have := h.acc (t := []) ⟨0, .done⟩; rwa [List.append_nil] at this⟩
/-- What reading nothing, and one byte more, lead to. -/
theorem run_nil {M : List St} {i l : Nat} : Run M i [] l ↔ Eps M i l := by
 constructor
 ·intro h
  generalize hs : ([] : List UInt8) = s at h
  induction h with
  | refl => exact .refl
  | eps _ hi hr hl ih => exact .step (ih hs) hi hr hl
  | read _ _ _ _ _ _ => simp at hs
 ·exact fun h => Run.eps_ .refl h
theorem run_snoc {M : List St} {i l : Nat} {s : List UInt8} {c : UInt8} : Run M i (s ++ [c]) l ↔ ∃ j st x, Run M i s j ∧ M[j]? = some st ∧ st.reads = true ∧ st.set c = true ∧ st.next = [x] ∧ Eps M x l := by
 constructor
 ·intro h
  generalize hs : s ++ [c] = t at h
  induction h with
  | refl => simp at hs
  | eps _ hi hr hl ih =>
   obtain ⟨j, st, x, h1, h2, h3, h4, h5, h6⟩ := ih hs
   exact ⟨j, st, x, h1, h2, h3, h4, h5, .step h6 hi hr hl⟩
  | read h hi hr hc hl _ =>
   obtain ⟨rfl, e⟩ := List.append_inj' hs rfl
   cases e
   exact ⟨_, _, _, h, hi, hr, hc, hl, .refl⟩
 ·rintro ⟨j, st, x, h1, h2, h3, h4, h5, h6⟩
  exact Run.eps_ (.read h1 h2 h3 h4 h5) h6
/-- A set is closed: what can be reached without reading is in it. -/
def Closed (M : List St) (S : Nat → Prop) : Prop := ∀ x st, S x → M[x]? = some st → st.reads = false → ∀ y ∈ st.next, S y
theorem Closed.eps {M : List St} {S : Nat → Prop} (h : Closed M S) {i j : Nat} (k : Eps M i j) (hi : S i) : S j := by
 induction k with
 | refl => exact hi
 | step _ h1 hr hl ih => exact h _ _ ih h1 hr _ hl
/-- What adding state i to the set S leads to. -/
structure Reach (M : List St) (S : Nat → Prop) (i : Nat) (T : Nat → Prop) : Prop where
 old : ∀ x, S x → T x
 new : T i
 only : ∀ x, T x → S x ∨ Eps M i x
 shut : ∀ x st, T x → ¬ S x → M[x]? = some st → st.reads = false → ∀ y ∈ st.next, T y
theorem Reach.there {M : List St} {S : Nat → Prop} {i : Nat} (h : S i) : Reach M S i S := ⟨fun _ h => h, h, fun _ h => .inl h, fun x _ h1 h2 => absurd h1 h2⟩
theorem Reach.closed {M : List St} {S T : Nat → Prop} {i : Nat} (h : Reach M S i T) (hS : Closed M S) : Closed M T := fun x st hx hi hr y hy => by
 by_cases hs : S x
 ·exact h.old y (hS x st hs hi hr y hy)
 ·exact h.shut x st hx hs hi hr y hy
/-- In the loop over what follows a state: the first k of them are done. -/
structure Part (M : List St) (S : Nat → Prop) (i : Nat) (next : List Nat) (k : Nat) (T : Nat → Prop) : Prop where
 old : ∀ x, S x → T x
 self : T i
 done : ∀ y ∈ next.take k, T y
 only : ∀ x, T x → S x ∨ Eps M i x
 shut : ∀ x st, T x → ¬ S x → x ≠ i → M[x]? = some st → st.reads = false → ∀ y ∈ st.next, T y
theorem Part.start {M : List St} {S : Nat → Prop} {i : Nat} {next : List Nat} : Part M S i next 0 (fun x => S x ∨ x = i) :=
 ⟨fun _ h => .inl h, .inr rfl, fun y hy => by simp at hy, fun x h => h.imp id (fun e => by rw [e]; exact .refl), fun x st h h2 h3 => absurd h (fun h => h.elim h2 h3)⟩
theorem Part.step {M : List St} {S T U : Nat → Prop} {i k : Nat} {next : List Nat} {st : St} (h : Part M S i next k T) (hk : k < next.length) (hi : M[i]? = some st) (hr : st.reads = false) (hn : st.next = next) (hu : Reach M T next[k] U) : Part M S i next (k + 1) U := by
 refine ⟨fun x hx => hu.old x (h.old x hx), hu.old i h.self, fun y hy => ?_, fun x hx => ?_, fun x st' hx h1 h2 h3 h4 y hy => ?_⟩
 ·rw [List.take_add_one, List.getElem?_eq_getElem hk, List.mem_append] at hy
  rcases hy with hy | hy
  ·exact hu.old y (h.done y hy)
  ·simp only [Option.toList_some, List.mem_singleton] at hy
   rw [hy]
   exact hu.new
 ·rcases hu.only x hx with h1 | h1
  ·exact h.only x h1
  ·exact .inr (Eps.head hi hr (by rw [hn]; exact List.getElem_mem hk) h1)
 ·by_cases ht : T x
  ·exact hu.old y (h.shut x st' ht h1 h2 h3 h4 y hy)
  ·exact hu.shut x st' hx ht h3 h4 y hy
theorem Part.end_ {M : List St} {S T : Nat → Prop} {i : Nat} {st : St} (h : Part M S i st.next st.next.length T) (hi : M[i]? = some st) : Reach M S i T := by
 refine ⟨h.old, h.self, h.only, fun x st' hx h1 h3 h4 y hy => ?_⟩
 by_cases e : x = i
 ·subst e
  rw [hi] at h3
  cases h3
  exact h.done y (by rwa [List.take_length])
 ·exact h.shut x st' hx h1 e h3 h4 y hy
/-- A state that reads: nothing follows. -/
theorem Reach.reads {M : List St} {S : Nat → Prop} {i : Nat} {st : St} (hi : M[i]? = some st) (hr : st.reads = true) : Reach M S i (fun x => S x ∨ x = i) := by
 refine ⟨fun _ h => .inl h, .inr rfl, fun x h => h.imp id (fun e => by rw [e]; exact .refl), fun x st' h h1 h3 h4 => ?_⟩
 rcases h with h | rfl
 ·exact absurd h h1
 ·rw [hi] at h3
  cases h3
  rw [hr] at h4
  cases h4
/-- The set says where the machine may be. -/
def Full (M : List St) (i : Nat) (s : List UInt8) (S : Nat → Prop) : Prop := ∀ x, S x ↔ Run M i s x
theorem Full.closed {M : List St} {i : Nat} {s : List UInt8} {S : Nat → Prop} (h : Full M i s S) : Closed M S := fun x st hx hi hr y hy => (h y).2 (.eps ((h x).1 hx) hi hr hy)
theorem full_nil {M : List St} {i : Nat} {S T : Nat → Prop} (hS : ∀ x, ¬ S x) (h : Reach M S i T) : Full M i [] T := fun x => by
 rw [run_nil]
 refine ⟨fun hx => (h.only x hx).resolve_left (hS x), fun hx => (h.closed (fun y _ hy => absurd hy (hS y))).eps hx h.new⟩
/-- In the loop over the states that may read the byte c: those below k are done. -/
structure Bit (M : List St) (S : Nat → Prop) (c : UInt8) (k : Nat) (T : Nat → Prop) : Prop where
 all : ∀ j st x, j < k → S j → M[j]? = some st → st.reads = true → st.set c = true → st.next = [x] → T x
 only : ∀ l, T l → ∃ j st x, S j ∧ M[j]? = some st ∧ st.reads = true ∧ st.set c = true ∧ st.next = [x] ∧ Eps M x l
 shut : Closed M T
theorem Bit.start {M : List St} {S : Nat → Prop} {c : UInt8} {T : Nat → Prop} (hT : ∀ x, ¬ T x) : Bit M S c 0 T := ⟨fun j _ _ h => by omega, fun l h => absurd h (hT l), fun x _ h => absurd h (hT x)⟩
theorem Bit.skip {M : List St} {S T : Nat → Prop} {c : UInt8} {k : Nat} (h : Bit M S c k T) (hk : ¬ (S k ∧ ∃ st, M[k]? = some st ∧ st.reads = true ∧ st.set c = true)) : Bit M S c (k + 1) T := by
 refine ⟨fun j st x hj hs hi hr hc hn => ?_, h.only, h.shut⟩
 by_cases e : j = k
 ·subst e
  exact absurd ⟨hs, st, hi, hr, hc⟩ hk
 ·exact h.all j st x (by omega) hs hi hr hc hn
theorem Bit.step {M : List St} {S T U : Nat → Prop} {c : UInt8} {k x : Nat} {st : St} (h : Bit M S c k T) (hs : S k) (hi : M[k]? = some st) (hr : st.reads = true) (hc : st.set c = true) (hn : st.next = [x]) (hu : Reach M T x U) : Bit M S c (k + 1) U := by
 refine ⟨fun j st' y hj hs' hi' hr' hc' hn' => ?_, fun l hl => ?_, hu.closed h.shut⟩
 ·by_cases e : j = k
  ·subst e
   rw [hi] at hi'
   cases hi'
   rw [hn] at hn'
   cases hn'
   exact hu.new
  ·exact hu.old y (h.all j st' y (by omega) hs' hi' hr' hc' hn')
 ·rcases hu.only l hl with h1 | h1
  ·exact h.only l h1
  ·exact ⟨k, st, x, hs, hi, hr, hc, hn, h1⟩
theorem Bit.full {M : List St} {S T : Nat → Prop} {c : UInt8} {i : Nat} {s : List UInt8} (h : Bit M S c M.length T) (hS : Full M i s S) : Full M i (s ++ [c]) T := fun l => by
 rw [run_snoc]
 constructor
 ·intro hl
  obtain ⟨j, st, x, h1, h2⟩ := h.only l hl
  exact ⟨j, st, x, (hS j).1 h1, h2⟩
 ·rintro ⟨j, st, x, h1, h2, h3, h4, h5, h6⟩
  exact h.shut.eps h6 (h.all j st x (List.getElem?_eq_some_iff.1 h2).1 ((hS j).2 h1) h2 h3 h4 h5)
/-- Whether the last state is in the set: whether what was read matches. -/
theorem full_mat {r : Re} {s : List UInt8} {S : Nat → Prop} (h : Full (mach r) (start r) s S) : S 0 ↔ Mat r s := by rw [h 0, ← acc_run, mach_mat]
end Go.Proofs.YtdeppcddknakjaaGreatDoor.Rx
namespace Go.Proofs.YtdeppcddknakjaaGreatDoor.Rx
theorem brk_fuel : ∀ (k j : Nat) (f : UInt8 → Bool) (b : Bool) (l : List UInt8), l.length < k → l.length < j → brk k f b l = brk j f b l
 | 0, _, _, _, _, h, _ => by omega
 | _ + 1, 0, _, _, _, _, h => by omega
 | k + 1, j + 1, f, b, [], _, _ => rfl
 | k + 1, j + 1, f, b, c :: l, hk, hj => by
  rw [brk, brk]
  split
  ·rfl
  ·cases hi : item (c :: l) with
   | none => rfl
   | some q =>
    obtain ⟨lo, r1⟩ := q
    simp only
    cases hr : rangeEnd lo r1 with
    | none => rfl
    | some q =>
     obtain ⟨hi', r2⟩ := q
     simp only
     split
     ·rfl
     ·have h1 := item_len hi
      have h2 := range_len hr
      rw [List.length_cons] at h1 hk hj
      exact brk_fuel k j _ _ r2 (by omega) (by omega)
/-- The items of a class from here on. -/
def bx (f : UInt8 → Bool) (b : Bool) (l : List UInt8) : Option ((UInt8 → Bool) × List UInt8) := brk (l.length + 1) f b l
theorem bx_nil (f : UInt8 → Bool) (b : Bool) : bx f b [] = none := rfl
theorem bx_end (f : UInt8 → Bool) (b : Bool) (l : List UInt8) : bx f b (93 :: l) = if b = true then none else some (f, l) := by
 unfold bx
 rw [brk, if_pos rfl]
theorem bx_item {f : UInt8 → Bool} {b : Bool} {c : UInt8} {l : List UInt8} (hc : c ≠ 93) (hi : item (c :: l) = none) : bx f b (c :: l) = none := by
 unfold bx
 rw [brk, if_neg hc, hi]
theorem bx_range {f : UInt8 → Bool} {b : Bool} {c lo : UInt8} {l r : List UInt8} (hc : c ≠ 93) (hi : item (c :: l) = some (lo, r)) (hr : rangeEnd lo r = none) : bx f b (c :: l) = none := by
 unfold bx
 rw [brk, if_neg hc, hi]
 simp only
 rw [hr]
theorem bx_less {f : UInt8 → Bool} {b : Bool} {c lo hi : UInt8} {l r q : List UInt8} (hc : c ≠ 93) (h1 : item (c :: l) = some (lo, r)) (h2 : rangeEnd lo r = some (hi, q)) (h3 : hi.toNat < lo.toNat) : bx f b (c :: l) = none := by
 unfold bx
 rw [brk, if_neg hc, h1]
 simp only
 rw [h2]
 simp only
 rw [if_pos h3]
theorem bx_step {f : UInt8 → Bool} {b : Bool} {c lo hi : UInt8} {l r q : List UInt8} (hc : c ≠ 93) (h1 : item (c :: l) = some (lo, r)) (h2 : rangeEnd lo r = some (hi, q)) (h3 : ¬ hi.toNat < lo.toNat) : bx f b (c :: l) = bx (addR f lo hi) false q := by
 have k1 := item_len h1
 have k2 := range_len h2
 unfold bx
 rw [brk, if_neg hc, h1]
 simp only
 rw [h2]
 simp only
 rw [if_neg h3]
 rw [List.length_cons] at k1 ⊢
 exact brk_fuel _ _ _ _ q (by omega) (by omega)
theorem cls_eq (c : UInt8) (l : List UInt8) : cls (c :: l) = if c = 94 then (bx none_ true l).map (fun q => (.cls (fun x => !q.1 x), q.2)) else (bx none_ true (c :: l)).map (fun q => (.cls q.1, q.2)) := rfl
theorem closed_len {x : Option (Re × List UInt8)} {n : Re} {r : List UInt8} (h : closed x = some (n, r)) : ∃ m, x = some (m, 41 :: r) := by
 match x with
 | none => cases h
 | some (m, []) => cases h
 | some (m, d :: q) =>
  rw [closed] at h
  split at h
  ·rename_i hd
   cases h
   rw [hd]
   exact ⟨_, rfl⟩
  ·cases h
theorem atom_len {p : List UInt8 → Option (Re × List UInt8)} (hp : ∀ l n r, p l = some (n, r) → r.length ≤ l.length) {l r : List UInt8} {n : Re} (h : atom p l = some (n, r)) : r.length + 1 ≤ l.length := by
 cases l with
 | nil => cases h
 | cons c l =>
  rw [atom] at h
  rw [List.length_cons]
  split at h
  ·cases h; omega
  ·split at h
   ·cases h; omega
   ·split at h
    ·have := escReAt_len h; omega
    ·split at h
     ·have := cls_len h; omega
     ·split at h
      ·obtain ⟨m, hm⟩ := closed_len h
       have := hp _ _ _ hm
       rw [List.length_cons] at this
       omega
      ·cases h
theorem pe_len : ∀ (k : Nat) (outs now : List Re) (l : List UInt8) (n : Re) (r : List UInt8), pe k outs now l = some (n, r) → r.length ≤ l.length
 | 0, _, _, _, _, _, h => by cases h
 | k + 1, outs, now, [], n, r, h => by cases h; simp
 | k + 1, outs, now, c :: l, n, r, h => by
  rw [pe] at h
  split at h
  ·cases h; exact Nat.le_refl _
  ·split at h
   ·have := pe_len k _ _ l n r h
    rw [List.length_cons]
    omega
   ·cases ha : atom (pe k [] []) (c :: l) with
    | none => rw [ha] at h; cases h
    | some q =>
     obtain ⟨m, r1⟩ := q
     rw [ha] at h
     simp only at h
     cases hq : post m r1 with
     | none => rw [hq] at h; cases h
     | some q =>
      obtain ⟨m', r2⟩ := q
      rw [hq] at h
      simp only at h
      have h1 := atom_len (fun l n r h => pe_len k [] [] l n r h) ha
      have h2 := post_len hq
      have h3 := pe_len k _ _ r2 n r h
      omega
theorem atom_fuel {p q : List UInt8 → Option (Re × List UInt8)} {c : UInt8} {l : List UInt8} (h : p l = q l) : atom p (c :: l) = atom q (c :: l) := by rw [atom, atom, h]
theorem pe_fuel : ∀ (k j : Nat) (outs now : List Re) (l : List UInt8), l.length < k → l.length < j → pe k outs now l = pe j outs now l
 | 0, _, _, _, _, h, _ => by omega
 | _ + 1, 0, _, _, _, _, h => by omega
 | k + 1, j + 1, outs, now, [], _, _ => rfl
 | k + 1, j + 1, outs, now, c :: l, hk, hj => by
  rw [List.length_cons] at hk hj
  rw [pe, pe]
  split
  ·rfl
  ·split
   ·exact pe_fuel k j _ _ l (by omega) (by omega)
   ·rw [atom_fuel (pe_fuel k j [] [] l (by omega) (by omega))]
    cases ha : atom (pe j [] []) (c :: l) with
    | none => rfl
    | some q =>
     obtain ⟨m, r1⟩ := q
     simp only
     cases hq : post m r1 with
     | none => rfl
     | some q =>
      obtain ⟨m', r2⟩ := q
      simp only
      have h1 := atom_len (fun l n r h => pe_len j [] [] l n r h) ha
      have h2 := post_len hq
      rw [List.length_cons] at h1
      exact pe_fuel k j _ _ r2 (by omega) (by omega)
/-- An expression from here on: alternatives and factors that were read before. -/
def ex (outs now : List Re) (l : List UInt8) : Option (Re × List UInt8) := pe (l.length + 1) outs now l
/-- An atom from here on. -/
def ax (l : List UInt8) : Option (Re × List UInt8) := atom (ex [] []) l
theorem ax_pe {k : Nat} {c : UInt8} {l : List UInt8} (hk : l.length < k) : atom (pe k [] []) (c :: l) = ax (c :: l) := atom_fuel (pe_fuel k _ [] [] l hk (by omega))
theorem ex_nil (outs now : List Re) : ex outs now [] = some (.alt (outs ++ [.cat now]), []) := rfl
theorem ex_close (outs now : List Re) (l : List UInt8) : ex outs now (41 :: l) = some (.alt (outs ++ [.cat now]), 41 :: l) := by
 unfold ex
 rw [pe, if_pos rfl]
theorem ex_bar (outs now : List Re) (l : List UInt8) : ex outs now (124 :: l) = ex (outs ++ [.cat now]) [] l := by
 unfold ex
 rw [List.length_cons, pe_bar]
theorem ex_none {outs now : List Re} {c : UInt8} {l : List UInt8} (h1 : c ≠ 41) (h2 : c ≠ 124) (h : ax (c :: l) = none) : ex outs now (c :: l) = none := by
 unfold ex
 rw [pe, if_neg h1, if_neg h2, ax_pe (by rw [List.length_cons]; omega), h]
theorem ex_post {outs now : List Re} {c : UInt8} {l r : List UInt8} {n : Re} (h1 : c ≠ 41) (h2 : c ≠ 124) (h : ax (c :: l) = some (n, r)) (hp : post n r = none) : ex outs now (c :: l) = none := by
 unfold ex
 rw [pe, if_neg h1, if_neg h2, ax_pe (by rw [List.length_cons]; omega), h]
 simp only
 rw [hp]
theorem ax_len {l r : List UInt8} {n : Re} (h : ax l = some (n, r)) : r.length + 1 ≤ l.length := atom_len (fun l n r h => pe_len _ [] [] l n r h) h
theorem ex_step {outs now : List Re} {c : UInt8} {l r q : List UInt8} {n n' : Re} (h1 : c ≠ 41) (h2 : c ≠ 124) (h : ax (c :: l) = some (n, r)) (hp : post n r = some (n', q)) : ex outs now (c :: l) = ex outs (now ++ [n']) q := by
 have k1 := ax_len h
 have k2 := post_len hp
 unfold ex
 rw [pe_step h1 h2 ((ax_pe (by rw [List.length_cons]; omega)).trans h) hp]
 rw [List.length_cons] at k1 ⊢
 exact pe_fuel _ _ _ _ q (by omega) (by omega)
theorem ax_byte {c : UInt8} (l : List UInt8) (h : special c = false) : ax (c :: l) = some (.byte c, l) := by unfold ax; rw [atom, if_pos h]
theorem ax_dot (l : List UInt8) : ax (46 :: l) = some (.cls (fun _ => true), l) := by unfold ax; rw [atom, if_neg (by decide), if_pos rfl]
theorem ax_esc (l : List UInt8) : ax (92 :: l) = escReAt l := by unfold ax; rw [atom, if_neg (by decide), if_neg (by decide), if_pos rfl]
theorem ax_cls (l : List UInt8) : ax (91 :: l) = cls l := by unfold ax; rw [atom, if_neg (by decide), if_neg (by decide), if_neg (by decide), if_pos rfl]
theorem ax_paren (l : List UInt8) : ax (40 :: l) = closed (ex [] [] l) := by unfold ax; rw [atom, if_neg (by decide), if_neg (by decide), if_neg (by decide), if_neg (by decide), if_pos rfl]
theorem ax_bad {c : UInt8} (l : List UInt8) (h : special c = true) (h1 : c ≠ 46) (h2 : c ≠ 92) (h3 : c ≠ 91) (h4 : c ≠ 40) : ax (c :: l) = none := by
 unfold ax
 rw [atom, if_neg (by rw [h]; decide), if_neg h1, if_neg h2, if_neg h3, if_neg h4]
theorem parse_ex (l : List UInt8) : parse l = match ex [] [] l with | some (r, []) => some r | _ => none := rfl
/-- What Check says. -/
def check (l : List UInt8) : Int := if 200 < l.length then 4 else if (parse l).isSome = true then 0 else 3
theorem check_ok {l : List UInt8} : check l = 0 ↔ l.length ≤ 200 ∧ ∃ r, parse l = some r := by
 unfold check
 split
 ·exact ⟨fun h => absurd h (by decide), fun h => by omega⟩
 ·split
  ·rename_i h1 h2
   exact ⟨fun _ => ⟨by omega, Option.isSome_iff_exists.1 h2⟩, fun _ => rfl⟩
  ·rename_i h1 h2
   exact ⟨fun h => absurd h (by decide), fun h => absurd (Option.isSome_iff_exists.2 h.2) h2⟩
/-- What Find returns: the place, or nothing. -/
def sub (s : List UInt8) (i k : Nat) : List UInt8 := (s.drop i).take (k - i)
structure Found (r : Re) (s : List UInt8) (i k : Nat) : Prop where
 le : i ≤ k
 len : k ≤ s.length
 mat : Mat r (sub s i k)
 first : ∀ i' k', i' < i → i' ≤ k' → k' ≤ s.length → ¬ Mat r (sub s i' k')
 last : ∀ k', k < k' → k' ≤ s.length → ¬ Mat r (sub s i k')
theorem Found.same {r : Re} {s : List UInt8} {i k i' k' : Nat} (h : Found r s i k) (h' : Found r s i' k') : i = i' ∧ k = k' := by
 have e : i = i' := by
  rcases Nat.lt_trichotomy i i' with hl | hl | hl
  ·exact absurd h.mat (h'.first i k hl h.le h.len)
  ·exact hl
  ·exact absurd h'.mat (h.first i' k' hl h'.le h'.len)
 subst e
 refine ⟨rfl, ?_⟩
 rcases Nat.lt_trichotomy k k' with hl | hl | hl
 ·exact absurd h'.mat (h.last k' hl h'.len)
 ·exact hl
 ·exact absurd h.mat (h'.last k hl h.len)
end Go.Proofs.YtdeppcddknakjaaGreatDoor.Rx
namespace Go.Proofs.YtdeppcddknakjaaGreatDoor.Rx
/-- What is behind an atom. -/
inductive Rp where
 | one | star | plus | opt
/-- The byte. -/
def Rp.b : Rp → UInt8
 | .one => 0
 | .star => 42
 | .plus => 43
 | .opt => 63
/-- A factor: a byte, a set, an expression in parentheses. -/
inductive Pe where
 | byte (c : UInt8) (r : Rp)
 | cls (f : UInt8 → Bool) (r : Rp)
 | sub (e : List (List Pe)) (r : Rp)
def withRep (n : Re) : Rp → Re
 | .one => n
 | .star => .star n
 | .plus => .plus n
 | .opt => .alt [.cat [], n]
mutual
def reF : Pe → Re
 | .byte c r => withRep (.byte c) r
 | .cls f r => withRep (.cls f) r
 | .sub e r => withRep (.alt (reE e)) r
def reA : List Pe → List Re
 | [] => []
 | p :: l => reF p :: reA l
def reE : List (List Pe) → List Re
 | [] => []
 | a :: e => .cat (reA a) :: reE e
end
theorem reA_append : ∀ a b : List Pe, reA (a ++ b) = reA a ++ reA b
 | [], b => by rw [List.nil_append, reA, List.nil_append]
 | p :: l, b => by rw [List.cons_append, reA, reA, reA_append l b, List.cons_append]
theorem reE_append : ∀ a b : List (List Pe), reE (a ++ b) = reE a ++ reE b
 | [], b => by rw [List.nil_append, reE, List.nil_append]
 | p :: l, b => by rw [List.cons_append, reE, reE, reE_append l b, List.cons_append]
theorem reA_one (p : Pe) : reA [p] = [reF p] := by rw [reA, reA]
theorem reE_one (a : List Pe) : reE [a] = [.cat (reA a)] := by rw [reE, reE]
def Pe.with : Pe → Rp → Pe
 | .byte c _, r => .byte c r
 | .cls f _, r => .cls f r
 | .sub e _, r => .sub e r
def Pe.rp : Pe → Rp
 | .byte _ r => r
 | .cls _ r => r
 | .sub _ r => r
theorem reF_with (p : Pe) (h : p.rp = .one) (r : Rp) : reF (p.with r) = withRep (reF p) r := by
 cases p <;> simp only [Pe.rp] at h <;> subst h <;> simp only [Pe.with, reF, withRep]
/-- How many states a factor has. -/
def wR : Rp → Nat
 | .one => 0
 | _ => 1
mutual
def wF : Pe → Nat
 | .byte _ r => 1 + wR r
 | .cls _ r => 1 + wR r
 | .sub e r => 1 + wE e + wR r
def wA : List Pe → Nat
 | [] => 0
 | p :: l => wF p + wA l
def wE : List (List Pe) → Nat
 | [] => 0
 | a :: e => wA a + wE e
end
theorem wA_append : ∀ a b : List Pe, wA (a ++ b) = wA a + wA b
 | [], b => by rw [List.nil_append, wA]; omega
 | p :: l, b => by rw [List.cons_append, wA, wA, wA_append l b]; omega
theorem wE_append : ∀ a b : List (List Pe), wE (a ++ b) = wE a + wE b
 | [], b => by rw [List.nil_append, wE]; omega
 | p :: l, b => by rw [List.cons_append, wE, wE, wE_append l b]; omega
theorem wA_one (p : Pe) : wA [p] = wF p := by rw [wA, wA]; omega
theorem wE_one (a : List Pe) : wE [a] = wA a := by rw [wE, wE]; omega
theorem wF_pos (p : Pe) : 1 ≤ wF p := by cases p <;> rw [wF] <;> omega
theorem wA_len : ∀ l : List Pe, l.length ≤ wA l
 | [] => by simp
 | p :: l => by
  have h1 := wA_len l
  have h2 := wF_pos p
  rw [wA, List.length_cons]
  omega
/-- A state of the automaton. -/
inductive Nd where
 | fin
 | hole
 | read (f : UInt8 → Bool) (nx : Nat)
 | fork (l : List Nat)
def Nd.st : Nd → St
 | .fin => ⟨false, none_, []⟩
 | .hole => ⟨false, none_, []⟩
 | .read f nx => ⟨true, f, [nx]⟩
 | .fork l => ⟨false, none_, l⟩
def cR (r : Rp) (at_ : List Nd → Nat → Nat × List Nd) (m : List Nd) (nx : Nat) : Nat × List Nd :=
 match r with
 | .one => at_ m nx
 | .opt => ((at_ m nx).2.length, (at_ m nx).2 ++ [.fork [(at_ m nx).1, nx]])
 | .star => (m.length, (at_ (m ++ [.hole]) m.length).2.set m.length (.fork [(at_ (m ++ [.hole]) m.length).1, nx]))
 | .plus => ((at_ (m ++ [.hole]) m.length).1, (at_ (m ++ [.hole]) m.length).2.set m.length (.fork [(at_ (m ++ [.hole]) m.length).1, nx]))
def cL (f : UInt8 → Bool) (m : List Nd) (nx : Nat) : Nat × List Nd := (m.length, m ++ [.read f nx])
mutual
/-- The states of a factor behind m; nx comes after it. -/
def cF : Pe → List Nd → Nat → Nat × List Nd
 | .byte c r, m, nx => cR r (cL fun x => x == c) m nx
 | .cls f r, m, nx => cR r (cL f) m nx
 | .sub e r, m, nx => cR r (fun m nx => ((cB e m nx).2.length, (cB e m nx).2 ++ [.fork (cB e m nx).1])) m nx
def cA : List Pe → List Nd → Nat → Nat × List Nd
 | [], m, nx => (nx, m)
 | p :: l, m, nx => cF p (cA l m nx).2 (cA l m nx).1
def cB : List (List Pe) → List Nd → Nat → List Nat × List Nd
 | [], m, nx => ([], m)
 | a :: e, m, nx => ((cA a m nx).1 :: (cB e (cA a m nx).2 nx).1, (cB e (cA a m nx).2 nx).2)
end
def cE (e : List (List Pe)) (m : List Nd) (nx : Nat) : Nat × List Nd := ((cB e m nx).2.length, (cB e m nx).2 ++ [.fork (cB e m nx).1])
theorem cF_sub (e : List (List Pe)) (r : Rp) (m : List Nd) (nx : Nat) : cF (.sub e r) m nx = cR r (cE e) m nx := by rw [cF]; rfl
theorem cB_snoc : ∀ (e : List (List Pe)) (a : List Pe) (m : List Nd) (nx : Nat), cB (e ++ [a]) m nx = ((cB e m nx).1 ++ [(cA a (cB e m nx).2 nx).1], (cA a (cB e m nx).2 nx).2)
 | [], a, m, nx => by rw [List.nil_append, cB, cB, cB]; rfl
 | x :: e, a, m, nx => by rw [List.cons_append, cB, cB_snoc e a, cB]; rfl
/-- m' holds m and more. -/
structure ExtN (m m' : List Nd) : Prop where
 len : m.length ≤ m'.length
 old : ∀ i, i < m.length → m'[i]? = m[i]?
theorem ExtN.refl (m : List Nd) : ExtN m m := ⟨Nat.le_refl _, fun _ _ => rfl⟩
theorem ExtN.trans {a b c : List Nd} (h : ExtN a b) (k : ExtN b c) : ExtN a c := ⟨Nat.le_trans h.len k.len, fun i hi => (k.old i (Nat.lt_of_lt_of_le hi h.len)).trans (h.old i hi)⟩
theorem ExtN.snoc (m : List Nd) (x : Nd) : ExtN m (m ++ [x]) := ⟨by simp, fun i hi => List.getElem?_append_left hi⟩
theorem ExtN.set {m m' : List Nd} (h : ExtN m m') (x : Nd) : ExtN m (m'.set m.length x) := ⟨by rw [List.length_set]; exact h.len, fun i hi => by rw [List.getElem?_set_ne (by omega)]; exact h.old i hi⟩
theorem cR_ext {r : Rp} {g : List Nd → Nat → Nat × List Nd} (h : ∀ m nx, ExtN m (g m nx).2) (m : List Nd) (nx : Nat) : ExtN m (cR r g m nx).2 := by
 cases r with
 | one => exact h m nx
 | opt => exact (h m nx).trans (ExtN.snoc _ _)
 | star => exact ((ExtN.snoc m _).trans (h _ _)).set _
 | plus => exact ((ExtN.snoc m _).trans (h _ _)).set _
mutual
theorem cF_ext : ∀ (p : Pe) (m : List Nd) (nx : Nat), ExtN m (cF p m nx).2
 | .byte c r, m, nx => by rw [cF]; exact cR_ext (fun m nx => ExtN.snoc _ _) m nx
 | .cls f r, m, nx => by rw [cF]; exact cR_ext (fun m nx => ExtN.snoc _ _) m nx
 | .sub e r, m, nx => by rw [cF]; exact cR_ext (fun m nx => (cB_ext e m nx).trans (ExtN.snoc _ _)) m nx
theorem cA_ext : ∀ (l : List Pe) (m : List Nd) (nx : Nat), ExtN m (cA l m nx).2
 | [], m, nx => by rw [cA]; exact ExtN.refl m
 | p :: l, m, nx => by rw [cA]; exact (cA_ext l m nx).trans (cF_ext p _ _)
theorem cB_ext : ∀ (e : List (List Pe)) (m : List Nd) (nx : Nat), ExtN m (cB e m nx).2
 | [], m, nx => by rw [cB]; exact ExtN.refl m
 | a :: e, m, nx => by rw [cB]; exact (cA_ext a m nx).trans (cB_ext e _ nx)
end
theorem cE_ext (e : List (List Pe)) (m : List Nd) (nx : Nat) : ExtN m (cE e m nx).2 := (cB_ext e m nx).trans (ExtN.snoc _ _)
/-- How many states. -/
theorem cR_len {r : Rp} {g : List Nd → Nat → Nat × List Nd} {n : Nat} (h : ∀ m nx, (g m nx).2.length = m.length + n) (m : List Nd) (nx : Nat) : (cR r g m nx).2.length = m.length + n + wR r := by
 cases r with
 | one => exact h m nx
 | opt => show ((g m nx).2 ++ [_]).length = _; rw [List.length_append, h]; rfl
 | star => show ((g _ _).2.set _ _).length = _; rw [List.length_set, h, List.length_append]; simp only [List.length_singleton, wR]; omega
 | plus => show ((g _ _).2.set _ _).length = _; rw [List.length_set, h, List.length_append]; simp only [List.length_singleton, wR]; omega
mutual
theorem cF_len : ∀ (p : Pe) (m : List Nd) (nx : Nat), (cF p m nx).2.length = m.length + wF p
 | .byte c r, m, nx => by rw [cF, cR_len (n := 1) (fun m nx => by simp [cL]), wF]; omega
 | .cls f r, m, nx => by rw [cF, cR_len (n := 1) (fun m nx => by simp [cL]), wF]; omega
 | .sub e r, m, nx => by rw [cF, cR_len (n := 1 + wE e) (fun m nx => by rw [List.length_append, cB_len e m nx]; simp only [List.length_singleton]; omega), wF]; omega
theorem cA_len : ∀ (l : List Pe) (m : List Nd) (nx : Nat), (cA l m nx).2.length = m.length + wA l
 | [], m, nx => by rw [cA, wA]; rfl
 | p :: l, m, nx => by rw [cA, cF_len p, cA_len l, wA]; omega
theorem cB_len : ∀ (e : List (List Pe)) (m : List Nd) (nx : Nat), (cB e m nx).2.length = m.length + wE e
 | [], m, nx => by rw [cB, wE]; rfl
 | a :: e, m, nx => by rw [cB]; show (cB e (cA a m nx).2 nx).2.length = _; rw [cB_len e, cA_len a, wE]; omega
end
theorem cE_len (e : List (List Pe)) (m : List Nd) (nx : Nat) : (cE e m nx).2.length = m.length + wE e + 1 := by
 show ((cB e m nx).2 ++ [_]).length = _
 rw [List.length_append, cB_len]
 rfl
theorem cB_count : ∀ (e : List (List Pe)) (m : List Nd) (nx : Nat), (cB e m nx).1.length = e.length
 | [], m, nx => by rw [cB]; rfl
 | a :: e, m, nx => by rw [cB]; show (_ :: _).length = _; rw [List.length_cons, cB_count e, List.length_cons]
/-- A state that is whole; what follows it lies below n. -/
def Nd.ok (n : Nat) : Nd → Prop
 | .fin => False
 | .hole => False
 | .read _ nx => nx < n
 | .fork l => ∀ x ∈ l, x < n
theorem Nd.ok.more {n n' : Nat} {x : Nd} (h : x.ok n) (k : n ≤ n') : x.ok n' := by
 cases x with
 | fin => exact h
 | hole => exact h
 | read f nx => exact Nat.lt_of_lt_of_le h k
 | fork l => exact fun y hy => Nat.lt_of_lt_of_le (h y hy) k
/-- The states behind m are whole, and the first one is there. -/
structure Wh (m : List Nd) (q : Nat × List Nd) : Prop where
 first : q.1 < q.2.length
 whole : ∀ i x, m.length ≤ i → q.2[i]? = some x → x.ok q.2.length
theorem cL_wh (f : UInt8 → Bool) (m : List Nd) (nx : Nat) (h : nx < m.length) : Wh m (cL f m nx) := by
 refine ⟨by simp [cL], fun i x hi hx => ?_⟩
 have h2 : (m ++ [Nd.read f nx])[i]? = some x := hx
 rw [List.getElem?_append_right hi] at h2
 have h3 : i - m.length = 0 := by
  have := (List.getElem?_eq_some_iff.1 h2).1
  simp at this
  omega
 rw [h3] at h2
 cases h2
 show nx < (m ++ [Nd.read f nx]).length
 rw [List.length_append]
 omega
theorem Wh.snoc {m : List Nd} {q : Nat × List Nd} (h : ∀ i x, m.length ≤ i → q.2[i]? = some x → x.ok q.2.length) {l : List Nat} (hl : ∀ y ∈ l, y < q.2.length) : Wh m (q.2.length, q.2 ++ [.fork l]) := by
 refine ⟨by simp, fun i x hi hx => ?_⟩
 show x.ok (q.2 ++ [Nd.fork l]).length
 rw [List.length_append]
 rcases Nat.lt_or_ge i q.2.length with hlt | hge
 ·have h2 : (q.2 ++ [Nd.fork l])[i]? = some x := hx
  rw [List.getElem?_append_left hlt] at h2
  exact (h i x hi h2).more (by omega)
 ·have h2 : (q.2 ++ [Nd.fork l])[i]? = some x := hx
  rw [List.getElem?_append_right hge] at h2
  have h3 : i - q.2.length = 0 := by
   have := (List.getElem?_eq_some_iff.1 h2).1
   simp at this
   omega
  rw [h3] at h2
  cases h2
  exact fun y hy => Nat.lt_of_lt_of_le (hl y hy) (by omega)
theorem cR_wh {r : Rp} {g : List Nd → Nat → Nat × List Nd} (he : ∀ m nx, ExtN m (g m nx).2) (h : ∀ m nx, nx < m.length → Wh m (g m nx)) (m : List Nd) (nx : Nat) (hn : nx < m.length) : Wh m (cR r g m nx) := by
 have hstar : ∀ k, k < (g (m ++ [.hole]) m.length).2.length → Wh m (k, (g (m ++ [.hole]) m.length).2.set m.length (.fork [(g (m ++ [.hole]) m.length).1, nx])) := fun k hk => by
  have h0 := h (m ++ [.hole]) m.length (by simp)
  have h1 := (he (m ++ [.hole]) m.length).len
  rw [List.length_append, List.length_singleton] at h1
  refine ⟨by rw [List.length_set]; exact hk, fun i x hi hx => ?_⟩
  simp only [List.length_set] at hx ⊢
  rw [List.getElem?_set] at hx
  split at hx
  ·split at hx
   ·cases hx
    intro y hy
    simp only [List.mem_cons, List.not_mem_nil, or_false] at hy
    rcases hy with rfl | rfl
    ·exact h0.first
    ·omega
   ·cases hx
  ·rename_i hne
   exact h0.whole i x (by rw [List.length_append, List.length_singleton]; omega) hx
 cases r with
 | one => exact h m nx hn
 | opt =>
  have h0 := h m nx hn
  refine Wh.snoc h0.whole (fun y hy => ?_)
  simp only [List.mem_cons, List.not_mem_nil, or_false] at hy
  have := (he m nx).len
  rcases hy with rfl | rfl
  ·exact h0.first
  ·omega
 | star =>
  have h1 := (he (m ++ [.hole]) m.length).len
  rw [List.length_append, List.length_singleton] at h1
  exact hstar m.length (by omega)
 | plus => exact hstar _ (h (m ++ [.hole]) m.length (by simp)).first
mutual
theorem cF_wh : ∀ (p : Pe) (m : List Nd) (nx : Nat), nx < m.length → Wh m (cF p m nx)
 | .byte c r, m, nx, h => by rw [cF]; exact cR_wh (fun m nx => ExtN.snoc _ _) (cL_wh _) m nx h
 | .cls f r, m, nx, h => by rw [cF]; exact cR_wh (fun m nx => ExtN.snoc _ _) (cL_wh _) m nx h
 | .sub e r, m, nx, h => by
  rw [cF]
  exact cR_wh (fun m nx => cE_ext e m nx) (fun m nx h => Wh.snoc (q := (0, (cB e m nx).2)) (cB_wh e m nx h).2 (cB_wh e m nx h).1) m nx h
theorem cA_wh : ∀ (l : List Pe) (m : List Nd) (nx : Nat), nx < m.length → Wh m (cA l m nx)
 | [], m, nx, h => by
  rw [cA]
  exact ⟨h, fun i x hi hx => absurd (List.getElem?_eq_some_iff.1 hx).1 (by show ¬ i < m.length; omega)⟩
 | p :: l, m, nx, h => by
  rw [cA]
  have h1 := cA_wh l m nx h
  have h2 := cF_wh p _ _ h1.first
  have h3 := cF_ext p (cA l m nx).2 (cA l m nx).1
  refine ⟨h2.first, fun i x hi hx => ?_⟩
  rcases Nat.lt_or_ge i (cA l m nx).2.length with hlt | hge
  ·rw [h3.old i hlt] at hx
   exact (h1.whole i x hi hx).more h3.len
  ·exact h2.whole i x hge hx
theorem cB_wh : ∀ (e : List (List Pe)) (m : List Nd) (nx : Nat), nx < m.length → (∀ y ∈ (cB e m nx).1, y < (cB e m nx).2.length) ∧ (∀ i x, m.length ≤ i → (cB e m nx).2[i]? = some x → x.ok (cB e m nx).2.length)
 | [], m, nx, h => by
  rw [cB]
  exact ⟨fun y hy => (by cases hy), fun i x hi hx => absurd (List.getElem?_eq_some_iff.1 hx).1 (by show ¬ i < m.length; omega)⟩
 | a :: e, m, nx, h => by
  rw [cB]
  have h1 := cA_wh a m nx h
  have h0 := (cA_ext a m nx).len
  have h2 := cB_wh e (cA a m nx).2 nx (by omega)
  have h3 := cB_ext e (cA a m nx).2 nx
  refine ⟨fun y hy => ?_, fun i x hi hx => ?_⟩
  ·rcases List.mem_cons.1 hy with rfl | hy
   ·exact Nat.lt_of_lt_of_le h1.first h3.len
   ·exact h2.1 y hy
  ·rcases Nat.lt_or_ge i (cA a m nx).2.length with hlt | hge
   ·rw [h3.old i hlt] at hx
    exact (h1.whole i x hi hx).more h3.len
   ·exact h2.2 i x hge hx
end
theorem cE_wh (e : List (List Pe)) (m : List Nd) (nx : Nat) (h : nx < m.length) : Wh m (cE e m nx) := Wh.snoc (q := (0, (cB e m nx).2)) (cB_wh e m nx h).2 (cB_wh e m nx h).1
end Go.Proofs.YtdeppcddknakjaaGreatDoor.Rx
namespace Go.Proofs.YtdeppcddknakjaaGreatDoor.Rx
/-- The states as those of the reference's machine are written. -/
def sts (M : List Nd) : List St := M.map Nd.st
theorem sts_at {M : List Nd} {i : Nat} {x : Nd} (h : M[i]? = some x) : (sts M)[i]? = some x.st := by unfold sts; rw [List.getElem?_map, h]; rfl
/-- M holds the states of m' behind those of m. -/
def HasN (M m m' : List Nd) : Prop := ∀ i, m.length ≤ i → i < m'.length → M[i]? = m'[i]?
theorem HasN.ext {M m a b : List Nd} (h : HasN M m b) (k : ExtN a b) : HasN M m a := fun i h1 h2 => (h i h1 (Nat.lt_of_lt_of_le h2 k.len)).trans (k.old i h2)
theorem HasN.front {M m a b : List Nd} (h : HasN M m b) (k : m.length ≤ a.length) : HasN M a b := fun i h1 h2 => h i (Nat.le_trans k h1) h2
theorem HasN.last {M m a : List Nd} {x : Nd} (h : HasN M m (a ++ [x])) (k : m.length ≤ a.length) : M[a.length]? = some x := by rw [h a.length k (by simp)]; simp
theorem HasN.top {M m b : List Nd} {x : Nd} (h : HasN M m (b.set m.length x)) (k : m.length < b.length) : M[m.length]? = some x := by
 rw [h m.length (Nat.le_refl _) (by rw [List.length_set]; exact k), List.getElem?_set_self k]
theorem HasN.rest {M m b : List Nd} {x y : Nd} (h : HasN M m (b.set m.length x)) : HasN M (m ++ [y]) b := fun i h1 h2 => by
 rw [List.length_append, List.length_singleton] at h1
 rw [h i (by omega) (by rw [List.length_set]; exact h2), List.getElem?_set_ne (by omega)]
/-- What the states of a part must do, in both directions. -/
structure Snds (g : List Nd → Nat → Nat × List Nd) (P : List UInt8 → Prop) : Prop where
 ext : ∀ m nx, ExtN m (g m nx).2
 snd : ∀ m nx M, HasN M m (g m nx).2 → 0 < m.length → Snd (sts M) P (g m nx).1 nx
 cpl : ∀ m nx M, HasN M m (g m nx).2 → Cpl (sts M) P (g m nx).1 nx
theorem snds_leaf {n : Re} (f : UInt8 → Bool) (h : ∀ s, Mat n s ↔ ∃ c, s = [c] ∧ f c = true) : Snds (cL f) (Mat n) := by
 refine ⟨fun m nx => ExtN.snoc _ _, fun m nx M hM h0 k s hs => ?_, fun m nx M hM a b ha hb => ?_⟩
 ·obtain ⟨x, r, k', rfl, hc, rfl, h1⟩ := hs.take h0 (sts_at (hM.last (Nat.le_refl _))) rfl rfl
  exact ⟨[x], r, k', rfl, (h [x]).2 ⟨x, rfl, hc⟩, by omega, h1⟩
 ·obtain ⟨c, rfl, hc⟩ := (h a).1 ha
  exact Acc.read (sts_at (hM.last (Nat.le_refl _))) rfl hc rfl hb
theorem snds_rep {g : List Nd → Nat → Nat × List Nd} {n : Re} (h : Snds g (Mat n)) : ∀ r : Rp, Snds (cR r g) (Mat (withRep n r))
 | .one => h
 | .opt => by
  refine ⟨cR_ext h.ext, fun m nx M hM h0 k s hs => ?_, fun m nx M hM a b ha hb => ?_⟩
  ·have hl := (h.ext m nx).len
   obtain ⟨j, k', hj, rfl, h1⟩ := hs.go (by show 0 < (g m nx).2.length; omega) (sts_at (hM.last hl)) rfl
   have hj2 : j = (g m nx).1 ∨ j = nx := by simpa [Nd.st] using hj
   rcases hj2 with rfl | rfl
   ·obtain ⟨a, b, j', rfl, ha, hjk, hb⟩ := h.snd m nx M (hM.ext (ExtN.snoc _ _)) h0 _ _ h1
    exact ⟨a, b, j', rfl, .alt (r := n) (by simp) ha, by omega, hb⟩
   ·exact ⟨[], s, k', rfl, .alt (r := .cat []) (by simp) .cat_nil, by omega, h1⟩
  ·have hl := (h.ext m nx).len
   have ha2 : a = [] ∨ Mat n a := by
    have h2 : Mat (.alt [.cat [], n]) a := ha
    rwa [mat_alt2, mat_nil] at h2
   rcases ha2 with rfl | ha2
   ·exact Acc.eps (sts_at (hM.last hl)) rfl (by simp [Nd.st]) hb
   ·exact Acc.eps (sts_at (hM.last hl)) rfl (by simp [Nd.st]) (h.cpl m nx M (hM.ext (ExtN.snoc _ _)) a b ha2 hb)
 | .star => by
  refine ⟨cR_ext h.ext, fun m nx M hM h0 => ?_, fun m nx M hM => ?_⟩
  all_goals
   have hl := (h.ext (m ++ [.hole]) m.length).len
   rw [List.length_append, List.length_singleton] at hl
  ·exact star_snd h0 (sts_at (hM.top (by omega))) rfl rfl (h.snd _ _ M hM.rest (by simp))
  ·exact star_cpl (sts_at (hM.top (by omega))) rfl rfl (h.cpl _ _ M hM.rest)
 | .plus => by
  refine ⟨cR_ext h.ext, fun m nx M hM h0 k s hs => ?_, fun m nx M hM a b ha hb => ?_⟩
  all_goals
   have hl := (h.ext (m ++ [.hole]) m.length).len
   rw [List.length_append, List.length_singleton] at hl
  ·have hS := h.snd _ _ M hM.rest (by simp)
   obtain ⟨a, b, j, rfl, ha, hjk, hb⟩ := hS _ _ hs
   obtain ⟨a2, b2, j2, rfl, ha2, hj2, hb2⟩ := star_snd h0 (sts_at (hM.top (by omega))) rfl rfl hS _ _ hb
   exact ⟨a ++ a2, b2, j2, by rw [List.append_assoc], .plus ha ha2, by omega, hb2⟩
  ·have hC := h.cpl _ _ M hM.rest
   obtain ⟨x, y, rfl, hx, hy⟩ := mat_plus.1 (show Mat (.plus n) a from ha)
   rw [List.append_assoc]
   exact hC _ _ hx (star_cpl (sts_at (hM.top (by omega))) rfl rfl hC _ _ hy hb)
/-- The states of alternatives. -/
structure SndB (e : List (List Pe)) : Prop where
 snd : ∀ m nx M, HasN M m (cB e m nx).2 → 0 < m.length → ∀ i ∈ (cB e m nx).1, ∃ r ∈ reE e, Snd (sts M) (Mat r) i nx
 cpl : ∀ m nx M, HasN M m (cB e m nx).2 → ∀ r ∈ reE e, ∃ i ∈ (cB e m nx).1, Cpl (sts M) (Mat r) i nx
theorem snds_alt {e : List (List Pe)} (h : SndB e) : Snds (cE e) (Mat (.alt (reE e))) := by
 refine ⟨cE_ext e, fun m nx M hM h0 k s hs => ?_, fun m nx M hM a b ha hb => ?_⟩
 all_goals have hl := (cB_ext e m nx).len
 ·obtain ⟨j, k', hj, rfl, h1⟩ := hs.go (by show 0 < (cB e m nx).2.length; omega) (sts_at (hM.last hl)) rfl
  obtain ⟨r, hr, hS⟩ := h.snd m nx M (hM.ext (ExtN.snoc _ _)) h0 j hj
  obtain ⟨a, b, j', rfl, ha, hjk, hb⟩ := hS _ _ h1
  exact ⟨a, b, j', rfl, .alt hr ha, by omega, hb⟩
 ·obtain ⟨r, hr, ha⟩ := mat_alt.1 ha
  obtain ⟨i, hi, hC⟩ := h.cpl m nx M (hM.ext (ExtN.snoc _ _)) r hr
  exact Acc.eps (sts_at (hM.last hl)) rfl hi (hC a b ha hb)
theorem cF_byte (c : UInt8) (r : Rp) : cF (.byte c r) = cR r (cL fun x => x == c) := by funext m nx; rw [cF]
theorem cF_cls (f : UInt8 → Bool) (r : Rp) : cF (.cls f r) = cR r (cL f) := by funext m nx; rw [cF]
theorem cF_subs (e : List (List Pe)) (r : Rp) : cF (.sub e r) = cR r (cE e) := by funext m nx; rw [cF_sub]
mutual
theorem cF_snds : ∀ p : Pe, Snds (cF p) (Mat (reF p))
 | .byte c r => by
  rw [cF_byte, reF]
  exact snds_rep (snds_leaf _ fun s => by
   rw [mat_byte]
   exact ⟨fun h => ⟨c, h, by simp⟩, fun ⟨x, h, k⟩ => by rw [h, show x = c by simpa using k]⟩) r
 | .cls f r => by
  rw [cF_cls, reF]
  exact snds_rep (snds_leaf f fun s => mat_cls) r
 | .sub e r => by
  rw [cF_subs, reF]
  exact snds_rep (snds_alt (cB_snds e)) r
theorem cA_snds : ∀ l : List Pe, Snds (cA l) (Mat (.cat (reA l)))
 | [] => by
  refine ⟨cA_ext [], fun m nx M hM h0 k s hs => ?_, fun m nx M hM a b ha hb => ?_⟩
  ·rw [cA] at hs
   exact ⟨[], s, k, rfl, .cat_nil, Nat.le_refl _, hs⟩
  ·rw [reA, mat_nil] at ha
   rw [cA]
   subst ha
   exact hb
 | p :: l => by
  have hp := cF_snds p
  have hq := cA_snds l
  refine ⟨cA_ext (p :: l), fun m nx M hM h0 k s hs => ?_, fun m nx M hM a b ha hb => ?_⟩
  all_goals have hl := (cA_ext l m nx).len
  ·rw [cA] at hM hs
   obtain ⟨a, b, j, rfl, ha, hjk, hb⟩ := hp.snd _ _ M (hM.front hl) (by omega) _ _ hs
   obtain ⟨a2, b2, j2, rfl, ha2, hj2, hb2⟩ := hq.snd m nx M (hM.ext (hp.ext _ _)) h0 _ _ hb
   exact ⟨a ++ a2, b2, j2, by rw [List.append_assoc], by rw [reA]; exact .cat_cons ha ha2, by omega, hb2⟩
  ·rw [cA] at hM ⊢
   rw [reA] at ha
   obtain ⟨x, y, rfl, hx, hy⟩ := mat_cons.1 ha
   rw [List.append_assoc]
   exact hp.cpl _ _ M (hM.front hl) _ _ hx (hq.cpl m nx M (hM.ext (hp.ext _ _)) _ _ hy hb)
theorem cB_snds : ∀ e : List (List Pe), SndB e
 | [] => by
  refine ⟨fun m nx M hM h0 i hi => ?_, fun m nx M hM r hr => ?_⟩
  ·rw [cB] at hi; cases hi
  ·rw [reE] at hr; cases hr
 | a :: e => by
  have hp := cA_snds a
  have hq := cB_snds e
  refine ⟨fun m nx M hM h0 i hi => ?_, fun m nx M hM r hr => ?_⟩
  all_goals have hl := (cA_ext a m nx).len
  ·rw [cB] at hM hi
   rw [reE]
   rcases List.mem_cons.1 hi with rfl | hi
   ·exact ⟨.cat (reA a), by simp, hp.snd m nx M (hM.ext (cB_ext e _ nx)) h0⟩
   ·obtain ⟨q, hq2, hS⟩ := hq.snd (cA a m nx).2 nx M (hM.front hl) (by omega) i hi
    exact ⟨q, by simp [hq2], hS⟩
  ·rw [cB] at hM ⊢
   rw [reE] at hr
   rcases List.mem_cons.1 hr with e1 | hr
   ·exact ⟨(cA a m nx).1, by simp, by rw [e1]; exact hp.cpl m nx M (hM.ext (cB_ext e _ nx))⟩
   ·obtain ⟨i, hi, hC⟩ := hq.cpl (cA a m nx).2 nx M (hM.front hl) r hr
    exact ⟨i, by simp [hi], hC⟩
end
/-- The automaton of an expression. -/
def pm (e : List (List Pe)) : List Nd := (cE e [.fin] 0).2
def ps (e : List (List Pe)) : Nat := (cE e [.fin] 0).1
theorem pm_zero (e : List (List Pe)) : (pm e)[0]? = some .fin := (cE_ext e [.fin] 0).old 0 (by simp)
theorem pm_len (e : List (List Pe)) : (pm e).length = wE e + 2 := by
 show (cE e [.fin] 0).2.length = _
 rw [cE_len]
 simp only [List.length_singleton]
 omega
theorem pm_at {e : List (List Pe)} {i : Nat} (h : i < (pm e).length) : (i = 0 ∧ (pm e)[i]? = some .fin) ∨ (0 < i ∧ ∃ x, (pm e)[i]? = some x ∧ x.ok (pm e).length) := by
 rcases Nat.eq_zero_or_pos i with rfl | h0
 ·exact .inl ⟨rfl, pm_zero e⟩
 ·refine .inr ⟨h0, (pm e)[i], List.getElem?_eq_getElem h, ?_⟩
  exact (cE_wh e [.fin] 0 (by simp)).whole i _ (by rw [List.length_singleton]; omega) (List.getElem?_eq_getElem h)
theorem ps_lt (e : List (List Pe)) : ps e < (pm e).length := (cE_wh e [.fin] 0 (by simp)).first
theorem pacc_zero {e : List (List Pe)} {s : List UInt8} : Acc (sts (pm e)) 0 s ↔ s = [] := by
 have h0 := sts_at (pm_zero e)
 constructor
 ·rintro ⟨k, h⟩
  cases h with
  | done => rfl
  | eps hi hr hj h => rw [h0] at hi; cases hi; cases hj
  | read hi hr hc hj h => rw [h0] at hi; cases hi; cases hr
 ·rintro rfl
  exact ⟨0, .done⟩
theorem pm_mat (e : List (List Pe)) (s : List UInt8) : Acc (sts (pm e)) (ps e) s ↔ Mat (.alt (reE e)) s := by
 have hS := snds_alt (cB_snds e)
 constructor
 ·rintro ⟨k, h⟩
  obtain ⟨a, b, j, rfl, ha, _, hb⟩ := hS.snd [.fin] 0 (pm e) (fun _ _ _ => rfl) (by simp) k s h
  rw [pacc_zero.1 ⟨j, hb⟩, List.append_nil]
  exact ha
 ·intro h
  have h1 := hS.cpl [.fin] 0 (pm e) (fun _ _ _ => rfl) s [] h (pacc_zero.2 rfl)
  rwa [List.append_nil] at h1
end Go.Proofs.YtdeppcddknakjaaGreatDoor.Rx
namespace Go.Proofs.YtdeppcddknakjaaGreatDoor.Rx
/-- What a run holds at one place of the text. -/
structure Rn where
 rch : List Bool
 lat : List (Nat × Nat)
 bs : Nat × Nat
 fd : Bool
def Rn.has (R : Rn) (q : Nat) : Prop := R.rch[q]?.getD true = true
def Rn.good (R : Rn) (i : Nat) : Prop := R.fd = true → i ≤ R.bs.1
def skips (R : Rn) (q i : Nat) : Bool := R.rch[q]?.getD true || (R.fd && decide (R.bs.1 < i))
theorem skips_no {R : Rn} {q i : Nat} : skips R q i = false ↔ ¬ R.has q ∧ R.good i := by
 unfold skips Rn.has Rn.good
 cases h1 : R.rch[q]?.getD true <;> cases h2 : R.fd <;> simp
section
variable (M : List Nd) (s : List UInt8) (p : Nat)
/-- Whether the byte at p is one of f. -/
def eats (f : UInt8 → Bool) : Bool := match s[p]? with
 | some c => f c
 | none => false
def kids (q : Nat) : List Nat := match M[q]? with
 | some (.fork l) => l
 | _ => []
def visit (R : Rn) (q i : Nat) : Rn := match M[q]? with
 | some .fin => ⟨R.rch.set q true, R.lat, (i, p), true⟩
 | some (.read f nx) => ⟨R.rch.set q true, if eats s p f = true then R.lat ++ [(nx, i)] else R.lat, R.bs, R.fd⟩
 | _ => ⟨R.rch.set q true, R.lat, R.bs, R.fd⟩
def dfs : Nat → Rn → Nat → Nat → Rn
 | 0, R, _, _ => R
 | k + 1, R, q, i => if skips R q i = true then R else (kids M q).foldl (fun R x => dfs k R x i) (visit M s p R q i)
end
variable {M : List Nd} {s : List UInt8} {p : Nat}
theorem visit_rch (R : Rn) (q i : Nat) : (visit M s p R q i).rch = R.rch.set q true := by unfold visit; split <;> rfl
theorem visit_has (R : Rn) (q i x : Nat) : (visit M s p R q i).has x ↔ R.has x ∨ x = q := by
 unfold Rn.has
 rw [visit_rch, List.getElem?_set]
 by_cases h : q = x
 ·subst h
  by_cases hl : q < R.rch.length
  ·simp [hl]
  ·simp [hl]
 ·have h' : ¬ x = q := fun e => h e.symm
  simp [h, h']
def cnt (R : Rn) : Nat := R.rch.countP (fun b => !b)
theorem count_set : ∀ (l : List Bool) (q : Nat), l[q]?.getD true = false → (l.set q true).countP (fun b => !b) + 1 = l.countP (fun b => !b)
 | [], q, h => by simp at h
 | b :: l, 0, h => by
  have hb : b = false := by simpa using h
  subst hb
  simp
 | b :: l, q + 1, h => by
  have ih := count_set l q (by simpa using h)
  rw [List.set_cons_succ, List.countP_cons, List.countP_cons]
  omega
theorem visit_cnt {R : Rn} {q i : Nat} (h : ¬ R.has q) : cnt (visit M s p R q i) + 1 = cnt R := by
 unfold cnt
 rw [visit_rch]
 exact count_set _ _ (by unfold Rn.has at h; simpa using h)
/-- Visits, one after the other. -/
inductive Vis (M : List Nd) (s : List UInt8) (p : Nat) : Rn → List (Nat × Nat) → Rn → Prop
 | nil (R : Rn) : Vis M s p R [] R
 | cons {R R' : Rn} {q i : Nat} {L : List (Nat × Nat)} (h : skips R q i = false) (t : Vis M s p (visit M s p R q i) L R') : Vis M s p R ((q, i) :: L) R'
theorem Vis.append {R R1 R2 : Rn} {A B : List (Nat × Nat)} (h : Vis M s p R A R1) (k : Vis M s p R1 B R2) : Vis M s p R (A ++ B) R2 := by
 induction h with
 | nil => exact k
 | cons h _ ih => exact .cons h (ih k)
theorem Vis.has {R R' : Rn} {L : List (Nat × Nat)} (h : Vis M s p R L R') (x : Nat) : R'.has x ↔ R.has x ∨ ∃ i, (x, i) ∈ L := by
 induction h with
 | nil => simp
 | @cons R R' q i L h _ ih =>
  rw [ih, visit_has]
  simp only [List.mem_cons, Prod.mk.injEq]
  constructor
  ·rintro ((h1 | rfl) | ⟨j, h1⟩)
   ·exact .inl h1
   ·exact .inr ⟨i, .inl ⟨rfl, rfl⟩⟩
   ·exact .inr ⟨j, .inr h1⟩
  ·rintro (h1 | ⟨j, ⟨rfl, rfl⟩ | h1⟩)
   ·exact .inl (.inl h1)
   ·exact .inl (.inr rfl)
   ·exact .inr ⟨j, h1⟩
theorem Vis.fresh {R R' : Rn} {L : List (Nat × Nat)} (h : Vis M s p R L R') {x : Nat} (hx : R.has x) (i : Nat) : (x, i) ∉ L := by
 induction h with
 | nil => simp
 | @cons R R' q j L h _ ih =>
  intro hm
  rcases List.mem_cons.1 hm with e | hm
  ·cases e
   exact (skips_no.1 h).1 hx
  ·exact ih ((visit_has _ _ _ _).2 (.inl hx)) hm
theorem Vis.cnt_le {R R' : Rn} {L : List (Nat × Nat)} (h : Vis M s p R L R') : cnt R' ≤ cnt R := by
 induction h with
 | nil => exact Nat.le_refl _
 | @cons R R' q i L h _ ih =>
  have := visit_cnt (M := M) (s := s) (p := p) (i := i) (skips_no.1 h).1
  omega
theorem visit_good {R : Rn} {q i j : Nat} (h : skips R q i = false) (hg : (visit M s p R q i).good j) : R.good j := by
 have hi := (skips_no.1 h).2
 unfold visit at hg
 split at hg
 ·intro hf
  have h1 := hi hf
  have h2 : j ≤ i := hg rfl
  omega
 ·exact hg
 ·exact hg
theorem visit_good2 {R : Rn} {q i : Nat} (h : R.good i) : (visit M s p R q i).good i := by
 unfold visit
 split
 ·exact fun _ => Nat.le_refl _
 ·exact h
 ·exact h
/-- What is no worse behind the visits was so before. -/
theorem Vis.good {R R' : Rn} {L : List (Nat × Nat)} (h : Vis M s p R L R') {j : Nat} (hg : R'.good j) : R.good j := by
 induction h with
 | nil => exact hg
 | cons h _ ih => exact visit_good h (ih hg)
theorem Vis.good2 {R R' : Rn} {L : List (Nat × Nat)} (h : Vis M s p R L R') {i : Nat} (hi : ∀ x ∈ L, x.2 = i) (hg : R.good i) : R'.good i := by
 induction h with
 | nil => exact hg
 | @cons R R' q j L h _ ih =>
  have e : j = i := hi (q, j) (by simp)
  subst e
  exact ih (fun x hx => hi x (by simp [hx])) (visit_good2 hg)
/-- What the states that read hand on. -/
def rd (M : List Nd) (s : List UInt8) (p : Nat) (x : Nat × Nat) : Option (Nat × Nat) := match M[x.1]? with
 | some (.read f nx) => if eats s p f = true then some (nx, x.2) else none
 | _ => none
theorem visit_lat (R : Rn) (q i : Nat) : (visit M s p R q i).lat = R.lat ++ (rd M s p (q, i)).toList := by
 unfold visit rd
 dsimp only
 cases h : M[q]? with
 | none => simp
 | some x =>
  cases x with
  | fin => simp
  | hole => simp
  | fork l => simp
  | read f nx =>
   dsimp only
   split <;> simp
theorem Vis.lat {R R' : Rn} {L : List (Nat × Nat)} (h : Vis M s p R L R') : R'.lat = R.lat ++ L.filterMap (rd M s p) := by
 induction h with
 | nil => simp
 | @cons R R' q i L h _ ih =>
  rw [ih, visit_lat, List.filterMap_cons]
  cases rd M s p (q, i) <;> simp
/-- The best part: that of the last state, if it was visited. -/
theorem Vis.best {R R' : Rn} {L : List (Nat × Nat)} (h : Vis M s p R L R') (h0 : ∀ q, M[q]? = some .fin ↔ q = 0) :
  (∃ j, (0, j) ∈ L ∧ R'.bs = (j, p) ∧ R'.fd = true ∧ R.good j ∧ ∀ j', (0, j') ∈ L → j' = j) ∨ ((∀ j, (0, j) ∉ L) ∧ R'.bs = R.bs ∧ R'.fd = R.fd) := by
 induction h with
 | nil => exact .inr ⟨by simp, rfl, rfl⟩
 | @cons R R' q i L h t ih =>
  have hno := skips_no.1 h
  by_cases hq : q = 0
  ·subst hq
   have hfin := (h0 0).2 rfl
   have hno2 : ∀ j, (0, j) ∉ L := fun j => t.fresh ((visit_has _ _ _ _).2 (.inr rfl)) j
   have hv : (visit M s p R 0 i).bs = (i, p) ∧ (visit M s p R 0 i).fd = true := by
    unfold visit
    rw [hfin]
    exact ⟨rfl, rfl⟩
   rcases ih with ⟨j, hj, _⟩ | ⟨_, h1, h2⟩
   ·exact absurd hj (hno2 j)
   ·refine .inl ⟨i, by simp, h1.trans hv.1, h2.trans hv.2, hno.2, fun j' hj' => ?_⟩
    rcases List.mem_cons.1 hj' with e | e
    ·cases e; rfl
    ·exact absurd e (hno2 j')
  ·have hv : (visit M s p R q i).bs = R.bs ∧ (visit M s p R q i).fd = R.fd := by
    unfold visit
    split
    ·rename_i he
     exact absurd ((h0 q).1 he) hq
    ·exact ⟨rfl, rfl⟩
    ·exact ⟨rfl, rfl⟩
   rcases ih with ⟨j, hj, h1, h2, h3, h4⟩ | ⟨h1, h2, h3⟩
   ·refine .inl ⟨j, by simp [hj], h1, h2, visit_good h h3, fun j' hj' => ?_⟩
    rcases List.mem_cons.1 hj' with e | e
    ·cases e; exact absurd rfl hq
    ·exact h4 j' e
   ·refine .inr ⟨fun j hj => ?_, h2.trans hv.1, h3.trans hv.2⟩
    rcases List.mem_cons.1 hj with e | e
    ·cases e; exact hq rfl
    ·exact h1 j e
/-- What reaching a state leads to. -/
structure Goes (M : List Nd) (s : List UInt8) (p : Nat) (R : Rn) (Q : Nat → Prop) (i : Nat) (R' : Rn) : Prop where
 vis : ∃ L, Vis M s p R L R' ∧ (∀ x ∈ L, x.2 = i ∧ ∃ q, Q q ∧ Eps (sts M) q x.1) ∧ (∀ x ∈ L, ∀ y ∈ kids M x.1, R'.has y)
 all : R.good i → ∀ q, Q q → R'.has q
theorem kids_st {q y : Nat} (h : y ∈ kids M q) : ∃ st, (sts M)[q]? = some st ∧ st.reads = false ∧ y ∈ st.next := by
 unfold kids at h
 split at h
 ·rename_i l he
  exact ⟨_, sts_at he, rfl, h⟩
 ·cases h
theorem kids_of {q y : Nat} {st : St} (h : (sts M)[q]? = some st) (hr : st.reads = false) (hy : y ∈ st.next) : y ∈ kids M q := by
 unfold sts at h
 rw [List.getElem?_map] at h
 cases hm : M[q]? with
 | none => rw [hm] at h; cases h
 | some x =>
  rw [hm] at h
  cases h
  unfold kids
  rw [hm]
  cases x with
  | fin => cases hy
  | hole => cases hy
  | read f nx => cases hr
  | fork l => exact hy
theorem fold_goes {k : Nat} (ih : ∀ (R : Rn) (q i : Nat), cnt R < k → Goes M s p R (· = q) i (dfs M s p k R q i)) : ∀ (l : List Nat) (R : Rn) (i : Nat), cnt R < k → Goes M s p R (· ∈ l) i (l.foldl (fun R x => dfs M s p k R x i) R)
 | [], R, i, h => ⟨⟨[], .nil R, fun x hx => (by cases hx), fun x hx => (by cases hx)⟩, fun _ q hq => (by cases hq)⟩
 | y :: l, R, i, h => by
  rw [List.foldl_cons]
  have h1 := ih R y i h
  obtain ⟨L1, v1, e1, c1⟩ := h1.vis
  have h2 := fold_goes ih l (dfs M s p k R y i) i (Nat.lt_of_le_of_lt v1.cnt_le h)
  obtain ⟨L2, v2, e2, c2⟩ := h2.vis
  refine ⟨⟨L1 ++ L2, v1.append v2, fun x hx => ?_, fun x hx z hz => ?_⟩, fun hg q hq => ?_⟩
  ·rcases List.mem_append.1 hx with hx | hx
   ·obtain ⟨a, q, rfl, b⟩ := e1 x hx
    exact ⟨a, q, by simp, b⟩
   ·obtain ⟨a, q, hq, b⟩ := e2 x hx
    exact ⟨a, q, by simp [hq], b⟩
  ·rcases List.mem_append.1 hx with hx | hx
   ·exact (v2.has z).2 (.inl (c1 x hx z hz))
   ·exact c2 x hx z hz
  ·rcases List.mem_cons.1 hq with rfl | hq
   ·exact (v2.has q).2 (.inl (h1.all hg q rfl))
   ·exact h2.all (v1.good2 (fun x hx => (e1 x hx).1) hg) q hq
theorem dfs_goes : ∀ (k : Nat) (R : Rn) (q i : Nat), cnt R < k → Goes M s p R (· = q) i (dfs M s p k R q i)
 | 0, R, q, i, h => by omega
 | k + 1, R, q, i, h => by
  rw [dfs]
  cases hs : skips R q i with
  | true =>
   rw [if_pos rfl]
   refine ⟨⟨[], .nil R, fun x hx => (by cases hx), fun x hx => (by cases hx)⟩, fun hg q' hq' => ?_⟩
   subst hq'
   apply Classical.byContradiction
   intro hn
   rw [skips_no.2 ⟨hn, hg⟩] at hs
   cases hs
  | false =>
   rw [if_neg (by decide)]
   have hno := skips_no.1 hs
   have hc := visit_cnt (M := M) (s := s) (p := p) (i := i) hno.1
   have h1 := fold_goes (fun R q i h => dfs_goes k R q i h) (kids M q) (visit M s p R q i) i (by omega)
   obtain ⟨L, v, e, c⟩ := h1.vis
   refine ⟨⟨(q, i) :: L, .cons hs v, fun x hx => ?_, fun x hx y hy => ?_⟩, fun hg q' hq' => ?_⟩
   ·rcases List.mem_cons.1 hx with rfl | hx
    ·exact ⟨rfl, q, rfl, .refl⟩
    ·obtain ⟨a, y, hy, b⟩ := e x hx
     obtain ⟨st, k1, k2, k3⟩ := kids_st hy
     exact ⟨a, q, rfl, Eps.head k1 k2 k3 b⟩
   ·rcases List.mem_cons.1 hx with rfl | hx
    ·exact h1.all (visit_good2 hno.2) y hy
    ·exact c x hx y hy
   ·subst hq'
    exact (v.has q').2 (.inl ((visit_has _ _ _ _).2 (.inr rfl)))
end Go.Proofs.YtdeppcddknakjaaGreatDoor.Rx
namespace Go.Proofs.YtdeppcddknakjaaGreatDoor.Rx
variable {M : List Nd} {s : List UInt8} {p : Nat}
/-- Positions, one after the other. -/
structure Seq (M : List Nd) (s : List UInt8) (p : Nat) (R : Rn) (P : List (Nat × Nat)) (R' : Rn) : Prop where
 vis : ∃ L, Vis M s p R L R' ∧ (∀ x ∈ L, ∃ q, (q, x.2) ∈ P ∧ Eps (sts M) q x.1) ∧ (∀ x ∈ L, ∀ y ∈ kids M x.1, R.has y ∨ ∃ j, (y, j) ∈ L ∧ j ≤ x.2) ∧ (∀ y ∈ P, R'.good y.2 → R.has y.1 ∨ ∃ j, (y.1, j) ∈ L ∧ j ≤ y.2) ∧ L.Pairwise (fun a b => a.2 ≤ b.2)
theorem fold_seq {k : Nat} : ∀ (P : List (Nat × Nat)) (R : Rn), cnt R < k → P.Pairwise (fun a b => a.2 ≤ b.2) → Seq M s p R P (P.foldl (fun R x => dfs M s p k R x.1 x.2) R)
 | [], R, h, hP => ⟨[], .nil R, fun x hx => (by cases hx), fun x hx => (by cases hx), fun x hx => (by cases hx), List.Pairwise.nil⟩
 | y :: P, R, h, hP => by
  rw [List.foldl_cons]
  rw [List.pairwise_cons] at hP
  have h1 := dfs_goes (M := M) (s := s) (p := p) k R y.1 y.2 h
  obtain ⟨L1, v1, e1, c1⟩ := h1.vis
  obtain ⟨L2, v2, e2, c2, d2, f2⟩ := (fold_seq P (dfs M s p k R y.1 y.2) (Nat.lt_of_le_of_lt v1.cnt_le h) hP.2).vis
  have hget : ∀ z, (dfs M s p k R y.1 y.2).has z → ∀ t, y.2 ≤ t → R.has z ∨ ∃ j, (z, j) ∈ L1 ++ L2 ∧ j ≤ t := fun z hz t ht => by
   rcases (v1.has z).1 hz with h2 | ⟨j, h2⟩
   ·exact .inl h2
   ·have := (e1 _ h2).1
    simp only at this
    exact .inr ⟨j, List.mem_append_left _ h2, by omega⟩
  have hle : ∀ x ∈ L2, y.2 ≤ x.2 := fun x hx => by
   obtain ⟨q, hq, _⟩ := e2 x hx
   exact hP.1 (q, x.2) hq
  refine ⟨L1 ++ L2, v1.append v2, fun x hx => ?_, fun x hx z hz => ?_, fun z hz hg => ?_, ?_⟩
  ·rcases List.mem_append.1 hx with hx | hx
   ·obtain ⟨a, q, hq, b⟩ := e1 x hx
    subst hq
    exact ⟨y.1, by rw [a]; exact List.mem_cons_self .., b⟩
   ·obtain ⟨q, hq, b⟩ := e2 x hx
    exact ⟨q, List.mem_cons_of_mem _ hq, b⟩
  ·rcases List.mem_append.1 hx with hx | hx
   ·exact hget z (c1 x hx z hz) _ (by have := (e1 x hx).1; omega)
   ·rcases c2 x hx z hz with h2 | ⟨j, h2, h3⟩
    ·exact hget z h2 _ (hle x hx)
    ·exact .inr ⟨j, List.mem_append_right _ h2, h3⟩
  ·rcases List.mem_cons.1 hz with rfl | hz
   ·exact hget _ (h1.all (v1.good (v2.good hg)) _ rfl) _ (Nat.le_refl _)
   ·rcases d2 z hz hg with h2 | ⟨j, h2, h3⟩
    ·exact hget _ h2 _ (hP.1 _ hz)
    ·exact .inr ⟨j, List.mem_append_right _ h2, h3⟩
  ·rw [List.pairwise_append]
   refine ⟨?_, f2, fun a ha b hb => ?_⟩
   ·rw [List.pairwise_iff_forall_sublist]
    intro a b hab
    have ha := (e1 a (hab.subset (by simp))).1
    have hb := (e1 b (hab.subset (by simp))).1
    omega
   ·have ha := (e1 a ha).1
    have := hle b hb
    omega
/-- A part of the text, with one byte more. -/
theorem sub_snoc {i : Nat} {c : UInt8} (hi : i ≤ p) (hc : s[p]? = some c) : sub s i (p + 1) = sub s i p ++ [c] := by
 unfold sub
 rw [show p + 1 - i = (p - i) + 1 by omega, List.take_add_one, List.getElem?_drop, show i + (p - i) = p by omega, hc]
 rfl
theorem sub_self (i : Nat) : sub s i i = [] := by unfold sub; rw [Nat.sub_self, List.take_zero]
/-- What the loop keeps: before the byte at p. -/
structure Inv (M : List Nd) (f0 : Nat) (s : List UInt8) (last p : Nat) (L : List (Nat × Nat)) (bs : Nat × Nat) (fd : Bool) : Prop where
 snd : ∀ x ∈ L, x.2 < p ∧ x.2 ≤ last ∧ Run (sts M) f0 (sub s x.2 p) x.1
 asc : L.Pairwise (fun a b => a.2 ≤ b.2)
 cpl : ∀ i q f nx c, i < p → i ≤ last → (fd = true → i ≤ bs.1) → Run (sts M) f0 (sub s i (p - 1)) q → M[q]? = some (.read f nx) → s[p - 1]? = some c → f c = true → ∃ i', i' ≤ i ∧ (nx, i') ∈ L
 fnd : fd = true → bs.1 ≤ bs.2 ∧ bs.2 < p ∧ bs.1 ≤ last ∧ Run (sts M) f0 (sub s bs.1 bs.2) 0
 opt : ∀ i k, i ≤ last → i ≤ k → k < p → Run (sts M) f0 (sub s i k) 0 → fd = true ∧ (bs.1 < i ∨ bs.1 = i ∧ k ≤ bs.2)
 zro : fd = false → bs = (0, 0)
theorem Inv.start (M : List Nd) (f0 : Nat) (s : List UInt8) (last : Nat) : Inv M f0 s last 0 [] (0, 0) false :=
 ⟨fun x hx => (by cases hx), List.Pairwise.nil, fun i _ _ _ _ h => by omega, fun h => (by cases h), fun i k _ _ h => by omega, fun _ => rfl⟩
/-- The positions that are reached before the byte at p. -/
def place (f0 last p : Nat) (L : List (Nat × Nat)) : List (Nat × Nat) := if p ≤ last then L ++ [(f0, p)] else L
def blank (n : Nat) (bs : Nat × Nat) (fd : Bool) : Rn := ⟨List.replicate n false, [], bs, fd⟩
def pass (M : List Nd) (s : List UInt8) (f0 last p : Nat) (L : List (Nat × Nat)) (bs : Nat × Nat) (fd : Bool) : Rn :=
 (place f0 last p L).foldl (fun R x => dfs M s p (M.length + 1) R x.1 x.2) (blank M.length bs fd)
theorem blank_cnt (n : Nat) (bs : Nat × Nat) (fd : Bool) : cnt (blank n bs fd) = n := by
 unfold cnt blank
 simp [List.countP_replicate]
theorem read_st {q : Nat} {st : St} (h : (sts M)[q]? = some st) (hr : st.reads = true) : ∃ f nx, M[q]? = some (.read f nx) ∧ st = ⟨true, f, [nx]⟩ := by
 unfold sts at h
 rw [List.getElem?_map] at h
 cases hm : M[q]? with
 | none => rw [hm] at h; cases h
 | some x =>
  rw [hm] at h
  cases h
  cases x with
  | fin => cases hr
  | hole => cases hr
  | fork l => cases hr
  | read f nx => exact ⟨f, nx, rfl, rfl⟩
/-- A round of the loop. -/
theorem Inv.step {f0 last : Nat} {L : List (Nat × Nat)} {bs : Nat × Nat} {fd : Bool} (h : Inv M f0 s last p L bs fd) (hp : p ≤ s.length)
  (h0 : ∀ q, M[q]? = some .fin ↔ q = 0) (hM : ∀ q x, M[q]? = some x → q = 0 ∨ x.ok M.length) (hf : f0 < M.length) :
  Inv M f0 s last (p + 1) (pass M s f0 last p L bs fd).lat (pass M s f0 last p L bs fd).bs (pass M s f0 last p L bs fd).fd := by
 have hmem : ∀ x, x ∈ place f0 last p L ↔ x ∈ L ∨ (p ≤ last ∧ x = (f0, p)) := fun x => by
  unfold place
  split
  ·rename_i hl; simp [hl]
  ·rename_i hl; simp [hl]
 obtain ⟨V, v, e, c, d, hasc⟩ := (fold_seq (M := M) (s := s) (p := p) (k := M.length + 1) (place f0 last p L) (blank M.length bs fd) (by rw [blank_cnt]; omega) (by
  unfold place
  split
  ·rw [List.pairwise_append]
   refine ⟨h.asc, by simp, fun x hx y hy => ?_⟩
   simp only [List.mem_singleton] at hy
   subst hy
   exact Nat.le_of_lt (h.snd x hx).1
  ·exact h.asc)).vis
 change Vis M s p (blank M.length bs fd) V (pass M s f0 last p L bs fd) at v
 change ∀ y ∈ place f0 last p L, (pass M s f0 last p L bs fd).good y.2 → _ at d
 have hR : (∃ j, (0, j) ∈ V ∧ (pass M s f0 last p L bs fd).bs = (j, p) ∧ (pass M s f0 last p L bs fd).fd = true ∧ (fd = true → j ≤ bs.1) ∧ ∀ j', (0, j') ∈ V → j' = j) ∨ ((∀ j, (0, j) ∉ V) ∧ (pass M s f0 last p L bs fd).bs = bs ∧ (pass M s f0 last p L bs fd).fd = fd) := v.best h0
 have hlat : (pass M s f0 last p L bs fd).lat = V.filterMap (rd M s p) := by rw [v.lat]; rfl
 generalize pass M s f0 last p L bs fd = R at *
 have hblank : ∀ x, x < M.length → ¬ (blank M.length bs fd).has x := fun x hx => by unfold Rn.has blank; simp [hx]
 have hsnd : ∀ x ∈ V, x.2 ≤ p ∧ x.2 ≤ last ∧ Run (sts M) f0 (sub s x.2 p) x.1 := fun x hx => by
  obtain ⟨q, hq, hE⟩ := e x hx
  rcases (hmem _).1 hq with h1 | ⟨h1, h2⟩
  ·have h2 := h.snd _ h1
   exact ⟨Nat.le_of_lt h2.1, h2.2.1, Run.eps_ h2.2.2 hE⟩
  ·cases h2
   refine ⟨Nat.le_refl _, h1, ?_⟩
   rw [sub_self]
   exact run_nil.2 hE
 -- a state that was visited: so are those behind it, with starts no greater
 have hkid : ∀ q y j, (q, j) ∈ V → y ∈ kids M q → ∃ j', (y, j') ∈ V ∧ j' ≤ j := fun q y j hq hy => by
  refine (c _ hq y hy).resolve_left (hblank y ?_)
  unfold kids at hy
  split at hy
  ·rename_i l he
   rcases hM _ _ he with h2 | h2
   ·have := (h0 q).2 h2
    rw [he] at this
    cases this
   ·exact h2 y hy
  ·cases hy
 have heps : ∀ q y, Eps (sts M) q y → ∀ j, (q, j) ∈ V → ∃ j', (y, j') ∈ V ∧ j' ≤ j := fun q y hE => by
  induction hE with
  | refl => exact fun j hj => ⟨j, hj, Nat.le_refl _⟩
  | step _ hi hr hl ih =>
   intro j hj
   obtain ⟨j1, h1, h2⟩ := ih j hj
   obtain ⟨j2, h3, h4⟩ := hkid _ _ _ h1 (kids_of hi hr hl)
   exact ⟨j2, h3, by omega⟩
 -- whatever can be reached here with a start that is good is reached, with a start no greater
 have hall : ∀ i q, i ≤ p → i ≤ last → R.good i → Run (sts M) f0 (sub s i p) q → ∃ j, (q, j) ∈ V ∧ j ≤ i := fun i q hi hl hg hr => by
  rcases Nat.lt_or_ge i p with hlt | hge
  ·obtain ⟨p, rfl⟩ : ∃ k, p = k + 1 := ⟨p - 1, by omega⟩
   have hpl : p < s.length := by omega
   rw [sub_snoc (by omega) (List.getElem?_eq_getElem hpl), run_snoc] at hr
   obtain ⟨q', st, x, k1, k2, k3, k4, k5, k6⟩ := hr
   obtain ⟨f, nx, m1, rfl⟩ := read_st k2 k3
   have ex : nx = x := by simpa using k5
   subst ex
   obtain ⟨i', h1, h2⟩ := h.cpl i q' f nx s[p] hlt hl (v.good hg) k1 m1 (List.getElem?_eq_getElem hpl) k4
   have hgi : R.good i' := fun hf => Nat.le_trans h1 (hg hf)
   have hnx : nx < M.length := by
    rcases hM _ _ m1 with h3 | h3
    ·have := (h0 q').2 h3
     rw [m1] at this
     cases this
    ·exact h3
   obtain ⟨j, h3, h4⟩ := (d (nx, i') ((hmem _).2 (.inl h2)) hgi).resolve_left (hblank nx hnx)
   obtain ⟨j2, h5, h6⟩ := heps _ _ k6 j h3
   exact ⟨j2, h5, by simp only at h4; omega⟩
  ·obtain rfl : i = p := by omega
   rw [sub_self, run_nil] at hr
   obtain ⟨j, h3, h4⟩ := (d (f0, i) ((hmem _).2 (.inr ⟨hl, rfl⟩)) hg).resolve_left (hblank f0 hf)
   obtain ⟨j2, h5, h6⟩ := heps _ _ hr j h3
   exact ⟨j2, h5, by simp only at h4; omega⟩
 have hrd : ∀ x, x ∈ R.lat ↔ ∃ q f, (q, x.2) ∈ V ∧ M[q]? = some (.read f x.1) ∧ eats s p f = true := fun x => by
  rw [hlat, List.mem_filterMap]
  constructor
  ·rintro ⟨y, hy, he⟩
   unfold rd at he
   split at he
   ·rename_i f nx hq
    split at he
    ·rename_i hb
     cases he
     exact ⟨y.1, f, hy, hq, hb⟩
    ·cases he
   ·cases he
  ·rintro ⟨q, f, h1, h2, h3⟩
   refine ⟨(q, x.2), h1, ?_⟩
   unfold rd
   simp only [h2, h3, if_true]
 have heat : ∀ f, eats s p f = true ↔ ∃ c, s[p]? = some c ∧ f c = true := fun f => by
  unfold eats
  cases s[p]? <;> simp
 refine ⟨fun x hx => ?_, ?_, fun i q f nx b hi hl hg hr hq hb hfb => ?_, fun hf1 => ?_, fun i k hl hik hk hr => ?_, fun hf0 => ?_⟩
 ·obtain ⟨q, f, h1, h2, h3⟩ := (hrd x).1 hx
  obtain ⟨b, hb, hfb⟩ := (heat f).1 h3
  have h4 := hsnd _ h1
  refine ⟨by have := h4.1; simp only at this; omega, h4.2.1, ?_⟩
  rw [sub_snoc h4.1 hb]
  exact .read h4.2.2 (sts_at h2) rfl hfb rfl
 ·rw [hlat]
  refine List.Pairwise.filterMap _ (fun a b hab a' ha' b' hb' => ?_) hasc
  have hst : ∀ {y : Nat × Nat} {z : Nat × Nat}, rd M s p y = some z → z.2 = y.2 := fun {y z} he => by
   unfold rd at he
   split at he
   ·split at he
    ·cases he; rfl
    ·cases he
   ·cases he
  rw [hst ha', hst hb']
  exact hab
 ·rw [Nat.add_sub_cancel] at hr hb
  obtain ⟨j, h1, h2⟩ := hall i q (by omega) hl hg hr
  exact ⟨j, h2, (hrd _).2 ⟨q, f, h1, hq, (heat f).2 ⟨b, hb, hfb⟩⟩⟩
 ·rcases hR with ⟨j, hj, h1, h2, h3, h4⟩ | ⟨h1, h2, h3⟩
  ·rw [h1]
   have h5 := hsnd _ hj
   exact ⟨h5.1, Nat.lt_succ_self _, h5.2.1, h5.2.2⟩
  ·rw [h2]
   have h5 := h.fnd (by rw [← h3]; exact hf1)
   exact ⟨h5.1, by omega, h5.2.2⟩
 ·have hnew : R.fd = true → R.bs = bs ∨ R.bs.2 = p ∧ (fd = true → R.bs.1 ≤ bs.1) := fun _ => by
   rcases hR with ⟨j, hj, h1, h2, h3, h4⟩ | ⟨h1, h2, h3⟩
   ·exact .inr ⟨by rw [h1], fun hfd => by rw [h1]; exact h3 hfd⟩
   ·exact .inl h2
  rcases Nat.lt_or_ge k p with hlt | hge
  ·obtain ⟨h1, h2⟩ := h.opt i k hl hik hlt hr
   have hfd : R.fd = true := by
    rcases hR with ⟨j, hj, h3, h4, _⟩ | ⟨h3, h4, h5⟩
    ·exact h4
    ·rw [h5]; exact h1
   refine ⟨hfd, ?_⟩
   rcases hnew hfd with h3 | ⟨h3, h4⟩
   ·rw [h3]; exact h2
   ·have := h4 h1
    omega
  ·obtain rfl : k = p := by omega
   by_cases hg : R.good i
   ·obtain ⟨j, h1, h2⟩ := hall i 0 hik hl hg hr
    rcases hR with ⟨j', hj, h3, h4, h5, h6⟩ | ⟨h3, _⟩
    ·have := h6 j h1
     subst this
     have h7 := hg h4
     rw [h3] at h7 ⊢
     exact ⟨h4, by simp only at h7 ⊢; omega⟩
    ·exact absurd h1 (h3 j)
   ·have hfd : R.fd = true := by
     apply Classical.byContradiction
     exact fun hn => hg fun hf => absurd hf hn
    exact ⟨hfd, .inl (by
     apply Classical.byContradiction
     exact fun hn => hg fun _ => by omega)⟩
 ·rcases hR with ⟨j, hj, h3, h4, _⟩ | ⟨h3, h4, h5⟩
  ·rw [h4] at hf0; cases hf0
  ·rw [h4]
   exact h.zro (by rw [← h5]; exact hf0)
/-- What a search returns. -/
structure Res (r : Re) (s : List UInt8) (last : Nat) (bs : Nat × Nat) (fd : Bool) : Prop where
 fnd : fd = true → bs.1 ≤ bs.2 ∧ bs.2 ≤ s.length ∧ bs.1 ≤ last ∧ Mat r (sub s bs.1 bs.2)
 opt : ∀ i k, i ≤ last → i ≤ k → k ≤ s.length → Mat r (sub s i k) → fd = true ∧ (bs.1 < i ∨ bs.1 = i ∧ k ≤ bs.2)
 zro : fd = false → bs = (0, 0)
/-- The loop ends: no better part can be found. -/
theorem Inv.end_ {e : List (List Pe)} {last p : Nat} {L : List (Nat × Nat)} {bs : Nat × Nat} {fd : Bool} (h : Inv (pm e) (ps e) s last p L bs fd) (hp : p ≤ s.length + 1)
  (hx : p = s.length + 1 ∨ (L = [] ∧ (fd = true ∨ last < p))) : Res (.alt (reE e)) s last bs fd := by
 refine ⟨fun hf => ?_, fun i k hl hik hk hm => ?_, h.zro⟩
 ·have h1 := h.fnd hf
  exact ⟨h1.1, by omega, h1.2.2.1, (pm_mat e _).1 (acc_run.2 h1.2.2.2)⟩
 ·have hr := acc_run.1 ((pm_mat e _).2 hm)
  rcases Nat.lt_or_ge k p with hlt | hge
  ·exact h.opt i k hl hik hlt hr
  ·rcases hx with rfl | ⟨rfl, hx⟩
   ·omega
   ·rcases Nat.lt_or_ge i p with hip | hip
    ·-- the way to the end passes the place before p
     have hsplit : sub s i k = sub s i p ++ sub s p k := by
      unfold sub
      rw [show k - i = (p - i) + (k - p) by omega, List.take_add, List.drop_drop, show i + (p - i) = p by omega]
     have hacc : ∃ q f nx c, Run (sts (pm e)) (ps e) (sub s i (p - 1)) q ∧ (pm e)[q]? = some (.read f nx) ∧ s[p - 1]? = some c ∧ f c = true := by
      obtain ⟨p, rfl⟩ : ∃ n, p = n + 1 := ⟨p - 1, by omega⟩
      have hpl : p < s.length := by omega
      rw [hsplit] at hr
      have hpre : ∀ (t : List UInt8) (z : Nat), Run (sts (pm e)) (ps e) (sub s i (p + 1) ++ t.reverse) z → ∃ y, Run (sts (pm e)) (ps e) (sub s i (p + 1)) y := by
       intro t
       induction t with
       | nil => intro z hz; rw [List.reverse_nil, List.append_nil] at hz; exact ⟨z, hz⟩
       | cons c t ih =>
        intro z hz
        rw [List.reverse_cons, ← List.append_assoc, run_snoc] at hz
        obtain ⟨j, _, _, h1, _⟩ := hz
        exact ih j h1
      rw [← List.reverse_reverse (sub s (p + 1) k)] at hr
      obtain ⟨y, hy⟩ := hpre _ _ hr
      rw [sub_snoc (by omega) (List.getElem?_eq_getElem hpl), run_snoc] at hy
      obtain ⟨q', st, x, k1, k2, k3, k4, k5, k6⟩ := hy
      obtain ⟨f, nx, m1, rfl⟩ := read_st k2 k3
      exact ⟨q', f, nx, s[p], k1, m1, List.getElem?_eq_getElem hpl, k4⟩
     obtain ⟨q, f, nx, c, h1, h2, h3, h4⟩ := hacc
     by_cases hg : fd = true → i ≤ bs.1
     ·obtain ⟨i', _, h5⟩ := h.cpl i q f nx c hip hl hg h1 h2 h3 h4
      cases h5
     ·have hfd : fd = true := by
       apply Classical.byContradiction
       exact fun hn => hg fun hf => absurd hf hn
      exact ⟨hfd, .inl (by
       apply Classical.byContradiction
       exact fun hn => hg fun _ => by omega)⟩
    ·rcases hx with hx | hx
     ·have := h.fnd hx
      exact ⟨hx, .inl (by omega)⟩
     ·omega
/-- What the whole text's match comes to. -/
theorem Res.whole {r : Re} {s : List UInt8} {bs : Nat × Nat} {fd : Bool} (h : Res r s 0 bs fd) : (fd = true ∧ bs.2 = s.length) ↔ Mat r s := by
 have hs : sub s 0 s.length = s := by unfold sub; simp
 constructor
 ·rintro ⟨h1, h2⟩
  have h3 := h.fnd h1
  have h4 : bs.1 = 0 := by omega
  have h5 := h3.2.2.2
  rwa [h4, h2, hs] at h5
 ·intro hm
  have h1 := h.opt 0 s.length (Nat.le_refl _) (Nat.zero_le _) (Nat.le_refl _) (by rw [hs]; exact hm)
  exact ⟨h1.1, by have := (h.fnd h1.1).2.1; omega⟩
theorem Res.found {r : Re} {s : List UInt8} {bs : Nat × Nat} (h : Res r s s.length bs true) : Found r s bs.1 bs.2 := by
 have h1 := h.fnd rfl
 refine ⟨h1.1, h1.2.1, h1.2.2.2, fun i' k' hi hik hk hm => ?_, fun k' hk hkl hm => ?_⟩
 ·have := (h.opt i' k' (by omega) hik hk hm).2
  omega
 ·have := (h.opt bs.1 k' (by omega) (by omega) hkl hm).2
  omega
end Go.Proofs.YtdeppcddknakjaaGreatDoor.Rx
