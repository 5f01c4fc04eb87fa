/- Layer 6, ahead: regular expressions: what they are, what they match, how they are read. -/
import Derived.Lib.Hide
set_option linter.unusedVariables false
set_option linter.unusedSimpArgs false
namespace Go.Proofs.Ytilfggnhaehbcaa.Rx
/-- An expression. 'byte': a byte or an escape that stands for one byte. -/
inductive Re where
  | byte (c : UInt8)
  | cls (f : UInt8 → Bool)
  | cat (l : List Re)
  | alt (l : List Re)
  | star (r : Re)
  | plus (r : Re)
/-- It matches. -/
inductive Mat : Re → List UInt8 → Prop
  | byte (c : UInt8) : Mat (.byte c) [c]
  | cls (f : UInt8 → Bool) (c : UInt8) (h : f c = true) : Mat (.cls f) [c]
  | cat_nil : Mat (.cat []) []
  | cat_cons {r : Re} {l : List Re} {a b : List UInt8} (h : Mat r a) (k : Mat (.cat l) b) : Mat (.cat (r :: l)) (a ++ b)
  | alt {r : Re} {l : List Re} {a : List UInt8} (hm : r ∈ l) (h : Mat r a) : Mat (.alt l) a
  | star_nil {r : Re} : Mat (.star r) []
  | star_cons {r : Re} {a b : List UInt8} (h : Mat r a) (k : Mat (.star r) b) : Mat (.star r) (a ++ b)
  | plus {r : Re} {a b : List UInt8} (h : Mat r a) (k : Mat (.star r) b) : Mat (.plus r) (a ++ b)
theorem mat_byte {c : UInt8} {s : List UInt8} : Mat (.byte c) s ↔ s = [c] :=
  ⟨fun h => by cases h; rfl, fun h => by subst h; exact .byte c⟩
theorem mat_cls {f : UInt8 → Bool} {s : List UInt8} : Mat (.cls f) s ↔ ∃ c, s = [c] ∧ f c = true :=
  ⟨fun h => by cases h with | cls _ c h => exact ⟨c, rfl, h⟩, fun ⟨c, hs, h⟩ => by subst hs; exact .cls f c h⟩
theorem mat_nil {s : List UInt8} : Mat (.cat []) s ↔ s = [] :=
  ⟨fun h => by cases h; rfl, fun h => by subst h; exact .cat_nil⟩
theorem mat_cons {r : Re} {l : List Re} {s : List UInt8} : Mat (.cat (r :: l)) s ↔ ∃ a b, s = a ++ b ∧ Mat r a ∧ Mat (.cat l) b :=
  ⟨fun h => by cases h with | cat_cons h k => exact ⟨_, _, rfl, h, k⟩, fun ⟨a, b, hs, h, k⟩ => by subst hs; exact .cat_cons h k⟩
theorem mat_one {r : Re} {s : List UInt8} : Mat (.cat [r]) s ↔ Mat r s := by
  rw [mat_cons]
  constructor
  · rintro ⟨a, b, rfl, h, k⟩
    rw [mat_nil] at k
    subst k
    rwa [List.append_nil]
  · exact fun h => ⟨s, [], (List.append_nil s).symm, h, .cat_nil⟩
theorem mat_alt {l : List Re} {s : List UInt8} : Mat (.alt l) s ↔ ∃ r ∈ l, Mat r s :=
  ⟨fun h => by cases h with | alt hm h => exact ⟨_, hm, h⟩, fun ⟨r, hm, h⟩ => .alt hm h⟩
theorem mat_alt1 {r : Re} {s : List UInt8} : Mat (.alt [r]) s ↔ Mat r s := by simp [mat_alt]
theorem mat_alt2 {r q : Re} {s : List UInt8} : Mat (.alt [r, q]) s ↔ Mat r s ∨ Mat q s := by simp [mat_alt]
theorem mat_plus {r : Re} {s : List UInt8} : Mat (.plus r) s ↔ ∃ a b, s = a ++ b ∧ Mat r a ∧ Mat (.star r) b :=
  ⟨fun h => by cases h with | plus h k => exact ⟨_, _, rfl, h, k⟩, fun ⟨a, b, hs, h, k⟩ => by subst hs; exact .plus h k⟩
/-- A star: nothing, or a part that is not empty and the rest. -/
theorem mat_star {r : Re} {s : List UInt8} : Mat (.star r) s ↔ s = [] ∨ ∃ a b, a ≠ [] ∧ s = a ++ b ∧ Mat r a ∧ Mat (.star r) b := by
  constructor
  · intro h
    generalize hq : Re.star r = q at h
    induction h with
    | star_nil => exact .inl rfl
    | @star_cons r' a b h k ih1 ih2 =>
      cases hq
      by_cases ha : a = []
      · subst ha
        exact ih2 rfl
      · exact .inr ⟨a, b, ha, rfl, h, k⟩
    | _ => cases hq
  · rintro (rfl | ⟨a, b, _, rfl, h, k⟩)
    · exact .star_nil
    · exact .star_cons h k
/-! Reading. -/
def special (c : UInt8) : Bool := c == 46 || c == 91 || c == 93 || c == 40 || c == 41 || c == 124 || c == 42 || c == 43 || c == 63 || c == 92
def digit (c : UInt8) : Bool := decide (48 ≤ c.toNat ∧ c.toNat ≤ 57)
def alnum (c : UInt8) : Bool := decide ((97 ≤ c.toNat ∧ c.toNat ≤ 122) ∨ (65 ≤ c.toNat ∧ c.toNat ≤ 90)) || digit c
def word (c : UInt8) : Bool := alnum c || c == 95
def rep (c : UInt8) : Bool := c == 42 || c == 43 || c == 63
def esc (c : UInt8) : Option UInt8 := if c = 110 then some 10 else if c = 116 then some 9 else if alnum c = true then none else some c
def escRe (c : UInt8) : Option Re := if c = 100 then some (.cls digit) else if c = 119 then some (.cls word) else (esc c).map .byte
def escAt : List UInt8 → Option (UInt8 × List UInt8)
  | [] => none
  | d :: r => (esc d).map (fun x => (x, r))
def escReAt : List UInt8 → Option (Re × List UInt8)
  | [] => none
  | d :: r => (escRe d).map (fun n => (n, r))
def item : List UInt8 → Option (UInt8 × List UInt8)
  | [] => none
  | c :: r => if c = 93 then none else if c = 92 then escAt r else some (c, r)
def rangeEnd (lo : UInt8) : List UInt8 → Option (UInt8 × List UInt8)
  | [] => some (lo, [])
  | [c] => some (lo, [c])
  | c :: d :: r => if c = 45 ∧ d ≠ 93 then item (d :: r) else some (lo, c :: d :: r)
def addR (f : UInt8 → Bool) (lo hi : UInt8) (x : UInt8) : Bool := f x || decide (lo.toNat ≤ x.toNat ∧ x.toNat ≤ hi.toNat)
def brk : Nat → (UInt8 → Bool) → Bool → List UInt8 → Option ((UInt8 → Bool) × List UInt8)
  | 0, _, _, _ => none
  | _ + 1, _, _, [] => none
  | k + 1, f, first, c :: r =>
    if c = 93 then (if first = true then none else some (f, r)) else
    match item (c :: r) with
    | none => none
    | some (lo, r1) =>
      match rangeEnd lo r1 with
      | none => none
      | some (hi, r2) => if hi.toNat < lo.toNat then none else brk k (addR f lo hi) false r2
def none_ : UInt8 → Bool := fun _ => false
def cls (l : List UInt8) : Option (Re × List UInt8) :=
  match l with
  | [] => none
  | c :: r => if c = 94 then (brk (r.length + 1) none_ true r).map (fun q => (.cls (fun x => !q.1 x), q.2)) else (brk (r.length + 2) none_ true (c :: r)).map (fun q => (.cls q.1, q.2))
/-- Behind an expression in parentheses. -/
def closed : Option (Re × List UInt8) → Option (Re × List UInt8)
  | some (n, d :: r) => if d = 41 then some (n, r) else none
  | _ => none
def atom (pe : List UInt8 → Option (Re × List UInt8)) : List UInt8 → Option (Re × List UInt8)
  | [] => none
  | c :: r =>
    if special c = false then some (.byte c, r)
    else if c = 46 then some (.cls (fun _ => true), r)
    else if c = 92 then escReAt r
    else if c = 91 then cls r
    else if c = 40 then closed (pe r)
    else none
def repRe (n : Re) (c : UInt8) : Re := if c = 42 then .star n else if c = 43 then .plus n else .alt [.cat [], n]
def post (n : Re) : List UInt8 → Option (Re × List UInt8)
  | [] => some (n, [])
  | [c] => if rep c = true then some (repRe n c, []) else some (n, [c])
  | c :: d :: r => if rep c = true then (if rep d = true then none else some (repRe n c, d :: r)) else some (n, c :: d :: r)
def pe : Nat → List Re → List Re → List UInt8 → Option (Re × List UInt8)
  | 0, _, _, _ => none
  | _ + 1, outs, now, [] => some (.alt (outs ++ [.cat now]), [])
  | k + 1, outs, now, c :: r =>
    if c = 41 then some (.alt (outs ++ [.cat now]), c :: r)
    else if c = 124 then pe k (outs ++ [.cat now]) [] r
    else match atom (pe k [] []) (c :: r) with
      | none => none
      | some (n, r1) =>
        match post n r1 with
        | none => none
        | some (n', r2) => pe k outs (now ++ [n']) r2
/-- A regular expression without its limit. -/
def parse (l : List UInt8) : Option Re :=
  match pe (l.length + 1) [] [] l with
  | some (r, []) => some r
  | _ => none
/-! With more behind it. -/
theorem escAt_app {l r t : List UInt8} {c : UInt8} (h : escAt l = some (c, r)) : escAt (l ++ t) = some (c, r ++ t) := by
  cases l with
  | nil => cases h
  | cons d l =>
    rw [List.cons_append, escAt]
    rw [escAt] at h
    cases he : esc d with
    | none => rw [he] at h; cases h
    | some y => rw [he] at h; cases h; rfl
theorem escAt_len {l r : List UInt8} {c : UInt8} (h : escAt l = some (c, r)) : r.length + 1 ≤ l.length := by
  cases l with
  | nil => cases h
  | cons d l =>
    rw [escAt] at h
    cases he : esc d with
    | none => rw [he] at h; cases h
    | some y => rw [he] at h; cases h; simp
theorem escReAt_app {l r t : List UInt8} {n : Re} (h : escReAt l = some (n, r)) : escReAt (l ++ t) = some (n, r ++ t) := by
  cases l with
  | nil => cases h
  | cons d l =>
    rw [List.cons_append, escReAt]
    rw [escReAt] at h
    cases he : escRe d with
    | none => rw [he] at h; cases h
    | some y => rw [he] at h; cases h; rfl
theorem escReAt_len {l r : List UInt8} {n : Re} (h : escReAt l = some (n, r)) : r.length + 1 ≤ l.length := by
  cases l with
  | nil => cases h
  | cons d l =>
    rw [escReAt] at h
    cases he : escRe d with
    | none => rw [he] at h; cases h
    | some y => rw [he] at h; cases h; simp
theorem item_app {l r t : List UInt8} {c : UInt8} (h : item l = some (c, r)) : item (l ++ t) = some (c, r ++ t) := by
  cases l with
  | nil => cases h
  | cons x l =>
    rw [item] at h
    rw [List.cons_append, item]
    split at h
    · cases h
    · rename_i h1
      rw [if_neg h1]
      split at h
      · rename_i h2
        rw [if_pos h2]
        exact escAt_app h
      · rename_i h2
        rw [if_neg h2]
        cases h
        rfl
theorem item_len {l r : List UInt8} {c : UInt8} (h : item l = some (c, r)) : r.length + 1 ≤ l.length := by
  cases l with
  | nil => cases h
  | cons x l =>
    rw [item] at h
    split at h
    · cases h
    · split at h
      · have := escAt_len h
        rw [List.length_cons]
        omega
      · cases h; simp
theorem range_app {l r t : List UInt8} {lo hi : UInt8} (h : rangeEnd lo l = some (hi, r)) (hr : r ≠ []) (h1 : ∀ c, l = [c] → c = 93) : rangeEnd lo (l ++ t) = some (hi, r ++ t) := by
  match l with
  | [] => cases h; exact absurd rfl hr
  | [c] =>
    have hc := h1 c rfl
    subst hc
    rw [rangeEnd] at h
    cases h
    cases t with
    | nil => rfl
    | cons d t =>
      show rangeEnd lo (93 :: d :: t) = _
      rw [rangeEnd, if_neg (by intro h; exact absurd h.1 (by decide))]
      rfl
  | c :: d :: l =>
    rw [List.cons_append, List.cons_append, rangeEnd]
    rw [rangeEnd] at h
    split at h
    · rename_i h1
      rw [if_pos h1]
      exact item_app h
    · rename_i h1
      rw [if_neg h1]
      cases h
      rfl
theorem range_len {l r : List UInt8} {lo hi : UInt8} (h : rangeEnd lo l = some (hi, r)) : r.length ≤ l.length := by
  match l with
  | [] => cases h; simp
  | [c] => cases h; simp
  | c :: d :: l =>
    rw [rangeEnd] at h
    split at h
    · have := item_len h
      simp only [List.length_cons] at this ⊢
      omega
    · cases h; simp
theorem brk_nil (k : Nat) (f : UInt8 → Bool) (b : Bool) : brk k f b [] = none := by cases k <;> rfl
theorem brk_one {k : Nat} {f : UInt8 → Bool} {b : Bool} {c : UInt8} {q : (UInt8 → Bool) × List UInt8} (h : brk k f b [c] = some q) : c = 93 := by
  cases k with
  | zero => cases h
  | succ k =>
    rw [brk] at h
    split at h
    · assumption
    · rename_i h1
      rw [item, if_neg h1] at h
      split at h
      · cases h
      · rename_i lo r1 he
        split at he
        · cases he
        · cases he
          rw [rangeEnd] at h
          simp only [Nat.lt_irrefl, if_false] at h
          rw [brk_nil] at h
          cases h
theorem brk_app : ∀ (k : Nat) (f : UInt8 → Bool) (b : Bool) (l r t : List UInt8) (g : UInt8 → Bool) (j : Nat), k ≤ j → brk k f b l = some (g, r) → brk j f b (l ++ t) = some (g, r ++ t)
  | 0, _, _, _, _, _, _, _, _, h => by cases h
  | k + 1, f, b, [], r, t, g, j, hj, h => by cases h
  | k + 1, f, b, c :: l, r, t, g, j, hj, h => by
    obtain ⟨j, rfl⟩ : ∃ i, j = i + 1 := ⟨j - 1, by omega⟩
    rw [List.cons_append, brk]
    rw [brk] at h
    split at h
    · rename_i h1
      rw [if_pos h1]
      split at h
      · cases h
      · rename_i h2
        rw [if_neg h2]
        cases h
        rfl
    · rename_i h1
      rw [if_neg h1]
      cases hi : item (c :: l) with
      | none => rw [hi] at h; cases h
      | some q =>
        obtain ⟨lo, r1⟩ := q
        rw [hi] at h
        simp only at h
        rw [← List.cons_append, item_app hi]
        simp only
        cases hr : rangeEnd lo r1 with
        | none => rw [hr] at h; cases h
        | some q =>
          obtain ⟨hi', r2⟩ := q
          rw [hr] at h
          simp only at h
          split at h
          · cases h
          · rename_i h3
            have hne : r2 ≠ [] := by
              intro e
              rw [e, brk_nil] at h
              cases h
            rw [range_app hr hne (fun x hx => by
              subst hx
              rw [rangeEnd] at hr
              cases hr
              exact brk_one h)]
            simp only
            rw [if_neg h3]
            exact brk_app k _ _ r2 r t g j (by omega) h
theorem brk_len : ∀ (k : Nat) (f : UInt8 → Bool) (b : Bool) (l r : List UInt8) (g : UInt8 → Bool), brk k f b l = some (g, r) → r.length + 1 ≤ l.length
  | 0, _, _, _, _, _, h => by cases h
  | k + 1, f, b, [], r, g, h => by cases h
  | k + 1, f, b, c :: l, r, g, h => by
    rw [brk] at h
    split at h
    · split at h
      · cases h
      · cases h; simp
    · cases hi : item (c :: l) with
      | none => rw [hi] at h; cases h
      | some q =>
        obtain ⟨lo, r1⟩ := q
        rw [hi] at h
        simp only at h
        cases hr : rangeEnd lo r1 with
        | none => rw [hr] at h; cases h
        | some q =>
          obtain ⟨hi', r2⟩ := q
          rw [hr] at h
          simp only at h
          split at h
          · cases h
          · have h1 := item_len hi
            have h2 := range_len hr
            have h3 := brk_len k _ _ r2 r g h
            omega
theorem cls_app {l r t : List UInt8} {n : Re} (h : cls l = some (n, r)) : cls (l ++ t) = some (n, r ++ t) := by
  cases l with
  | nil => cases h
  | cons c l =>
    rw [List.cons_append]
    unfold cls at h ⊢
    simp only at h ⊢
    split at h
    · rename_i h1
      rw [if_pos h1]
      cases hb : brk (l.length + 1) none_ true l with
      | none => rw [hb] at h; cases h
      | some q =>
        obtain ⟨g, r'⟩ := q
        rw [hb] at h
        cases h
        rw [brk_app _ _ _ _ _ t _ _ (by rw [List.length_append]; omega) hb]
        rfl
    · rename_i h1
      rw [if_neg h1]
      cases hb : brk (l.length + 2) none_ true (c :: l) with
      | none => rw [hb] at h; cases h
      | some q =>
        obtain ⟨g, r'⟩ := q
        rw [hb] at h
        cases h
        have h2 := brk_app _ _ _ _ _ t _ ((l ++ t).length + 2) (by rw [List.length_append]; omega) hb
        rw [List.cons_append] at h2
        rw [h2]
        rfl
theorem cls_len {l r : List UInt8} {n : Re} (h : cls l = some (n, r)) : r.length + 1 ≤ l.length := by
  cases l with
  | nil => cases h
  | cons c l =>
    unfold cls at h
    simp only at h
    split at h
    · cases hb : brk (l.length + 1) none_ true l with
      | none => rw [hb] at h; cases h
      | some q =>
        obtain ⟨g, r'⟩ := q
        rw [hb] at h
        cases h
        have := brk_len _ _ _ _ _ _ hb
        show r'.length + 1 ≤ (c :: l).length
        rw [List.length_cons]
        omega
    · cases hb : brk (l.length + 2) none_ true (c :: l) with
      | none => rw [hb] at h; cases h
      | some q =>
        obtain ⟨g, r'⟩ := q
        rw [hb] at h
        cases h
        exact brk_len _ _ _ _ _ _ hb
/-- Behind a factor comes the parenthesis that closes: nothing turns. -/
theorem post_app {n n' : Re} {l r t : List UInt8} (h : post n l = some (n', r)) : post n (l ++ 41 :: t) = some (n', r ++ 41 :: t) := by
  have e : rep 41 = false := by decide
  match l with
  | [] =>
    cases h
    cases t with
    | nil => show post n [41] = _; rw [post, if_neg (by simp [e])]; rfl
    | cons d t => show post n (41 :: d :: t) = _; rw [post, if_neg (by simp [e])]; rfl
  | [c] =>
    rw [post] at h
    show post n (c :: 41 :: t) = _
    rw [post]
    split at h
    · rename_i h1
      cases h
      rw [if_pos h1, if_neg (by simp [e])]
      rfl
    · rename_i h1
      cases h
      rw [if_neg h1]
      rfl
  | c :: d :: l =>
    rw [post] at h
    show post n (c :: d :: (l ++ 41 :: t)) = _
    rw [post]
    split at h
    · rename_i h1
      rw [if_pos h1]
      split at h
      · cases h
      · rename_i h2
        cases h
        rw [if_neg h2]
        rfl
    · rename_i h1
      cases h
      rw [if_neg h1]
      rfl
theorem post_len {n n' : Re} {l r : List UInt8} (h : post n l = some (n', r)) : r.length ≤ l.length := by
  match l with
  | [] => cases h; simp
  | [c] =>
    rw [post] at h
    split at h <;> cases h <;> simp
  | c :: d :: l =>
    rw [post] at h
    split at h
    · split at h
      · cases h
      · cases h; simp
    · cases h; simp
theorem closed_app {x y : Option (Re × List UInt8)} {n : Re} {r t : List UInt8} (hxy : ∀ m q, x = some (m, q) → y = some (m, q ++ t)) (h : closed x = some (n, r)) : closed y = some (n, r ++ t) := by
  match x with
  | none => cases h
  | some (m, []) => cases h
  | some (m, d :: q) =>
    rw [hxy m (d :: q) rfl]
    rw [closed] at h
    rw [List.cons_append, closed]
    split at h
    · rename_i h1
      cases h
      rw [if_pos h1]
    · cases h
theorem atom_app {p1 p2 : List UInt8 → Option (Re × List UInt8)} {t : List UInt8} (hp : ∀ l n r, p1 l = some (n, r) → p2 (l ++ 41 :: t) = some (n, r ++ 41 :: t)) {l r : List UInt8} {n : Re} (h : atom p1 l = some (n, r)) : atom p2 (l ++ 41 :: t) = some (n, r ++ 41 :: t) := by
  cases l with
  | nil => cases h
  | cons c l =>
    rw [List.cons_append, atom]
    rw [atom] at h
    split at h
    · rename_i h1
      cases h
      rw [if_pos h1]
    · rename_i h1
      rw [if_neg h1]
      split at h
      · rename_i h2
        cases h
        rw [if_pos h2]
      · rename_i h2
        rw [if_neg h2]
        split at h
        · rename_i h3
          rw [if_pos h3]
          exact escReAt_app h
        · rename_i h3
          rw [if_neg h3]
          split at h
          · rename_i h4
            rw [if_pos h4]
            exact cls_app h
          · rename_i h4
            rw [if_neg h4]
            split at h
            · rename_i h5
              rw [if_pos h5]
              exact closed_app (fun m q => hp l m q) h
            · cases h
theorem pe_app (t : List UInt8) : ∀ (k : Nat) (outs now : List Re) (l : List UInt8) (n : Re) (r : List UInt8) (j : Nat), k ≤ j → pe k outs now l = some (n, r) → pe j outs now (l ++ 41 :: t) = some (n, r ++ 41 :: t)
  | 0, _, _, _, _, _, _, _, h => by cases h
  | k + 1, outs, now, [], n, r, j, hj, h => by
    obtain ⟨j, rfl⟩ : ∃ i, j = i + 1 := ⟨j - 1, by omega⟩
    cases h
    show pe (j + 1) outs now (41 :: t) = _
    rw [pe, if_pos rfl]
    rfl
  | k + 1, outs, now, c :: l, n, r, j, hj, h => by
    obtain ⟨j, rfl⟩ : ∃ i, j = i + 1 := ⟨j - 1, by omega⟩
    rw [List.cons_append, pe]
    rw [pe] at h
    split at h
    · rename_i h1
      cases h
      rw [if_pos h1]
      rfl
    · rename_i h1
      rw [if_neg h1]
      split at h
      · rename_i h2
        rw [if_pos h2]
        exact pe_app t k _ _ l n r j (by omega) h
      · rename_i h2
        rw [if_neg h2]
        cases ha : atom (pe k [] []) (c :: l) with
        | none => rw [ha] at h; cases h
        | some q =>
          obtain ⟨m, r1⟩ := q
          rw [ha] at h
          simp only at h
          have ha2 := atom_app (p2 := pe j [] []) (t := t) (fun l n r h => pe_app t k [] [] l n r j (by omega) h) ha
          rw [List.cons_append] at ha2
          rw [ha2]
          simp only
          cases hp : post m r1 with
          | none => rw [hp] at h; cases h
          | some q =>
            obtain ⟨m', r2⟩ := q
            rw [hp] at h
            simp only at h
            rw [post_app hp]
            exact pe_app t k _ _ r2 n r j (by omega) h
/-- An expression in parentheses is an atom. -/
theorem paren_atom {p t : List UInt8} {rp : Re} (h : parse p = some rp) {j : Nat} (hj : p.length + 1 ≤ j) : atom (pe j [] []) (40 :: (p ++ 41 :: t)) = some (rp, t) := by
  unfold parse at h
  split at h
  · rename_i r he
    cases h
    have h1 := pe_app t _ _ _ _ _ _ j hj he
    rw [atom, if_neg (by decide), if_neg (by decide), if_neg (by decide), if_neg (by decide), if_pos rfl, h1]
    rfl
  · cases h
theorem parse_of {l : List UInt8} {n : Re} (h : pe (l.length + 1) [] [] l = some (n, [])) : parse l = some n := by unfold parse; rw [h]
/-- One step: an atom and what repeats it. -/
theorem pe_step {k : Nat} {outs now : List Re} {c : UInt8} {l r1 r2 : List UInt8} {n n' : Re} (h1 : c ≠ 41) (h2 : c ≠ 124) (ha : atom (pe k [] []) (c :: l) = some (n, r1)) (hp : post n r1 = some (n', r2)) : pe (k + 1) outs now (c :: l) = pe k outs (now ++ [n']) r2 := by
  rw [pe, if_neg h1, if_neg h2, ha]
  simp only
  rw [hp]
theorem pe_bar {k : Nat} {outs now : List Re} {l : List UInt8} : pe (k + 1) outs now (124 :: l) = pe k (outs ++ [.cat now]) [] l := by
  rw [pe, if_neg (by decide), if_pos rfl]
theorem pe_end {k : Nat} {outs now : List Re} : pe (k + 1) outs now [] = some (.alt (outs ++ [.cat now]), []) := rfl
theorem parse_either {p q : List UInt8} {rp rq : Re} (hp : parse p = some rp) (hq : parse q = some rq) : parse (40 :: (p ++ 41 :: 124 :: 40 :: (q ++ [41]))) = some (.alt [.cat [rp], .cat [rq]]) := by
  refine parse_of ?_
  obtain ⟨k, hk⟩ : ∃ k, (40 :: (p ++ 41 :: 124 :: 40 :: (q ++ [41]))).length = k + p.length + q.length + 4 := ⟨1, by simp only [List.length_cons, List.length_append, List.length_nil]; omega⟩
  rw [hk, pe_step (r1 := 124 :: 40 :: (q ++ [41])) (r2 := 124 :: 40 :: (q ++ [41])) (n' := rp) (by decide) (by decide) (paren_atom hp (by omega)) rfl]
  rw [show k + p.length + q.length + 4 = (k + p.length + q.length + 3) + 1 from rfl, pe_bar]
  rw [show k + p.length + q.length + 3 = (k + p.length + q.length + 2) + 1 from rfl, pe_step (r1 := []) (r2 := []) (n' := rq) (by decide) (by decide) (paren_atom hq (by omega)) rfl]
  rfl
theorem parse_concat {p q : List UInt8} {rp rq : Re} (hp : parse p = some rp) (hq : parse q = some rq) : parse (40 :: (p ++ 41 :: 40 :: (q ++ [41]))) = some (.alt [.cat [rp, rq]]) := by
  refine parse_of ?_
  obtain ⟨k, hk⟩ : ∃ k, (40 :: (p ++ 41 :: 40 :: (q ++ [41]))).length = k + p.length + q.length + 3 := ⟨1, by simp only [List.length_cons, List.length_append, List.length_nil]; omega⟩
  rw [hk, pe_step (r1 := 40 :: (q ++ [41])) (r2 := 40 :: (q ++ [41])) (n' := rp) (by decide) (by decide) (paren_atom hp (by omega)) (by cases q <;> rfl)]
  rw [show k + p.length + q.length + 3 = (k + p.length + q.length + 2) + 1 from rfl, pe_step (r1 := []) (r2 := []) (n' := rq) (by decide) (by decide) (paren_atom hq (by omega)) rfl]
  rfl
theorem parse_rep {p : List UInt8} {rp : Re} (hp : parse p = some rp) {c : UInt8} (hc : rep c = true) : parse (40 :: (p ++ [41, c])) = some (.alt [.cat [repRe rp c]]) := by
  refine parse_of ?_
  obtain ⟨k, hk⟩ : ∃ k, (40 :: (p ++ [41, c])).length = k + p.length + 2 := ⟨1, by simp only [List.length_cons, List.length_append, List.length_nil]; omega⟩
  rw [hk, pe_step (r1 := [c]) (r2 := []) (n' := repRe rp c) (by decide) (by decide) (paren_atom hp (by omega)) (by rw [post, if_pos hc])]
  rfl
end Go.Proofs.Ytilfggnhaehbcaa.Rx
