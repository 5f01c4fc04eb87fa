/- Layer 6, ahead: reading, step by step, without counting steps; what Find returns. -/
import Derived.Test.YtilfggnhaehbcaaRxD
set_option linter.unusedVariables false
set_option linter.unusedSimpArgs false
namespace Go.Proofs.Ytilfggnhaehbcaa.Rx
theorem brk_fuel : ∀ (k j : Nat) (f : UInt8 → Bool) (b : Bool) (l : List UInt8), l.length < k → l.length < j → brk k f b l = brk j f b l
  | 0, _, _, _, _, h, _ => by omega
  | _ + 1, 0, _, _, _, _, h => by omega
  | k + 1, j + 1, f, b, [], _, _ => rfl
  | k + 1, j + 1, f, b, c :: l, hk, hj => by
    rw [brk, brk]
    split
    · rfl
    · cases hi : item (c :: l) with
      | none => rfl
      | some q =>
        obtain ⟨lo, r1⟩ := q
        simp only
        cases hr : rangeEnd lo r1 with
        | none => rfl
        | some q =>
          obtain ⟨hi', r2⟩ := q
          simp only
          split
          · rfl
          · have h1 := item_len hi
            have h2 := range_len hr
            rw [List.length_cons] at h1 hk hj
            exact brk_fuel k j _ _ r2 (by omega) (by omega)
/-- The items of a class from here on. -/
def bx (f : UInt8 → Bool) (b : Bool) (l : List UInt8) : Option ((UInt8 → Bool) × List UInt8) := brk (l.length + 1) f b l
theorem bx_nil (f : UInt8 → Bool) (b : Bool) : bx f b [] = none := rfl
theorem bx_end (f : UInt8 → Bool) (b : Bool) (l : List UInt8) : bx f b (93 :: l) = if b = true then none else some (f, l) := by
  unfold bx
  rw [brk, if_pos rfl]
theorem bx_item {f : UInt8 → Bool} {b : Bool} {c : UInt8} {l : List UInt8} (hc : c ≠ 93) (hi : item (c :: l) = none) : bx f b (c :: l) = none := by
  unfold bx
  rw [brk, if_neg hc, hi]
theorem bx_range {f : UInt8 → Bool} {b : Bool} {c lo : UInt8} {l r : List UInt8} (hc : c ≠ 93) (hi : item (c :: l) = some (lo, r)) (hr : rangeEnd lo r = none) : bx f b (c :: l) = none := by
  unfold bx
  rw [brk, if_neg hc, hi]
  simp only
  rw [hr]
theorem bx_less {f : UInt8 → Bool} {b : Bool} {c lo hi : UInt8} {l r q : List UInt8} (hc : c ≠ 93) (h1 : item (c :: l) = some (lo, r)) (h2 : rangeEnd lo r = some (hi, q)) (h3 : hi.toNat < lo.toNat) : bx f b (c :: l) = none := by
  unfold bx
  rw [brk, if_neg hc, h1]
  simp only
  rw [h2]
  simp only
  rw [if_pos h3]
theorem bx_step {f : UInt8 → Bool} {b : Bool} {c lo hi : UInt8} {l r q : List UInt8} (hc : c ≠ 93) (h1 : item (c :: l) = some (lo, r)) (h2 : rangeEnd lo r = some (hi, q)) (h3 : ¬ hi.toNat < lo.toNat) : bx f b (c :: l) = bx (addR f lo hi) false q := by
  have k1 := item_len h1
  have k2 := range_len h2
  unfold bx
  rw [brk, if_neg hc, h1]
  simp only
  rw [h2]
  simp only
  rw [if_neg h3]
  rw [List.length_cons] at k1 ⊢
  exact brk_fuel _ _ _ _ q (by omega) (by omega)
theorem cls_eq (c : UInt8) (l : List UInt8) : cls (c :: l) = if c = 94 then (bx none_ true l).map (fun q => (.cls (fun x => !q.1 x), q.2)) else (bx none_ true (c :: l)).map (fun q => (.cls q.1, q.2)) := rfl
theorem closed_len {x : Option (Re × List UInt8)} {n : Re} {r : List UInt8} (h : closed x = some (n, r)) : ∃ m, x = some (m, 41 :: r) := by
  match x with
  | none => cases h
  | some (m, []) => cases h
  | some (m, d :: q) =>
    rw [closed] at h
    split at h
    · rename_i hd
      cases h
      rw [hd]
      exact ⟨_, rfl⟩
    · cases h
theorem atom_len {p : List UInt8 → Option (Re × List UInt8)} (hp : ∀ l n r, p l = some (n, r) → r.length ≤ l.length) {l r : List UInt8} {n : Re} (h : atom p l = some (n, r)) : r.length + 1 ≤ l.length := by
  cases l with
  | nil => cases h
  | cons c l =>
    rw [atom] at h
    rw [List.length_cons]
    split at h
    · cases h; omega
    · split at h
      · cases h; omega
      · split at h
        · have := escReAt_len h; omega
        · split at h
          · have := cls_len h; omega
          · split at h
            · obtain ⟨m, hm⟩ := closed_len h
              have := hp _ _ _ hm
              rw [List.length_cons] at this
              omega
            · cases h
theorem pe_len : ∀ (k : Nat) (outs now : List Re) (l : List UInt8) (n : Re) (r : List UInt8), pe k outs now l = some (n, r) → r.length ≤ l.length
  | 0, _, _, _, _, _, h => by cases h
  | k + 1, outs, now, [], n, r, h => by cases h; simp
  | k + 1, outs, now, c :: l, n, r, h => by
    rw [pe] at h
    split at h
    · cases h; exact Nat.le_refl _
    · split at h
      · have := pe_len k _ _ l n r h
        rw [List.length_cons]
        omega
      · cases ha : atom (pe k [] []) (c :: l) with
        | none => rw [ha] at h; cases h
        | some q =>
          obtain ⟨m, r1⟩ := q
          rw [ha] at h
          simp only at h
          cases hq : post m r1 with
          | none => rw [hq] at h; cases h
          | some q =>
            obtain ⟨m', r2⟩ := q
            rw [hq] at h
            simp only at h
            have h1 := atom_len (fun l n r h => pe_len k [] [] l n r h) ha
            have h2 := post_len hq
            have h3 := pe_len k _ _ r2 n r h
            omega
theorem atom_fuel {p q : List UInt8 → Option (Re × List UInt8)} {c : UInt8} {l : List UInt8} (h : p l = q l) : atom p (c :: l) = atom q (c :: l) := by rw [atom, atom, h]
theorem pe_fuel : ∀ (k j : Nat) (outs now : List Re) (l : List UInt8), l.length < k → l.length < j → pe k outs now l = pe j outs now l
  | 0, _, _, _, _, h, _ => by omega
  | _ + 1, 0, _, _, _, _, h => by omega
  | k + 1, j + 1, outs, now, [], _, _ => rfl
  | k + 1, j + 1, outs, now, c :: l, hk, hj => by
    rw [List.length_cons] at hk hj
    rw [pe, pe]
    split
    · rfl
    · split
      · exact pe_fuel k j _ _ l (by omega) (by omega)
      · rw [atom_fuel (pe_fuel k j [] [] l (by omega) (by omega))]
        cases ha : atom (pe j [] []) (c :: l) with
        | none => rfl
        | some q =>
          obtain ⟨m, r1⟩ := q
          simp only
          cases hq : post m r1 with
          | none => rfl
          | some q =>
            obtain ⟨m', r2⟩ := q
            simp only
            have h1 := atom_len (fun l n r h => pe_len j [] [] l n r h) ha
            have h2 := post_len hq
            rw [List.length_cons] at h1
            exact pe_fuel k j _ _ r2 (by omega) (by omega)
/-- An expression from here on: alternatives and factors that were read before. -/
def ex (outs now : List Re) (l : List UInt8) : Option (Re × List UInt8) := pe (l.length + 1) outs now l
/-- An atom from here on. -/
def ax (l : List UInt8) : Option (Re × List UInt8) := atom (ex [] []) l
theorem ax_pe {k : Nat} {c : UInt8} {l : List UInt8} (hk : l.length < k) : atom (pe k [] []) (c :: l) = ax (c :: l) := atom_fuel (pe_fuel k _ [] [] l hk (by omega))
theorem ex_nil (outs now : List Re) : ex outs now [] = some (.alt (outs ++ [.cat now]), []) := rfl
theorem ex_close (outs now : List Re) (l : List UInt8) : ex outs now (41 :: l) = some (.alt (outs ++ [.cat now]), 41 :: l) := by
  unfold ex
  rw [pe, if_pos rfl]
theorem ex_bar (outs now : List Re) (l : List UInt8) : ex outs now (124 :: l) = ex (outs ++ [.cat now]) [] l := by
  unfold ex
  rw [List.length_cons, pe_bar]
theorem ex_none {outs now : List Re} {c : UInt8} {l : List UInt8} (h1 : c ≠ 41) (h2 : c ≠ 124) (h : ax (c :: l) = none) : ex outs now (c :: l) = none := by
  unfold ex
  rw [pe, if_neg h1, if_neg h2, ax_pe (by rw [List.length_cons]; omega), h]
theorem ex_post {outs now : List Re} {c : UInt8} {l r : List UInt8} {n : Re} (h1 : c ≠ 41) (h2 : c ≠ 124) (h : ax (c :: l) = some (n, r)) (hp : post n r = none) : ex outs now (c :: l) = none := by
  unfold ex
  rw [pe, if_neg h1, if_neg h2, ax_pe (by rw [List.length_cons]; omega), h]
  simp only
  rw [hp]
theorem ax_len {l r : List UInt8} {n : Re} (h : ax l = some (n, r)) : r.length + 1 ≤ l.length := atom_len (fun l n r h => pe_len _ [] [] l n r h) h
theorem ex_len {outs now : List Re} {l r : List UInt8} {n : Re} (h : ex outs now l = some (n, r)) : r.length ≤ l.length := pe_len _ _ _ _ _ _ h
theorem ex_step {outs now : List Re} {c : UInt8} {l r q : List UInt8} {n n' : Re} (h1 : c ≠ 41) (h2 : c ≠ 124) (h : ax (c :: l) = some (n, r)) (hp : post n r = some (n', q)) : ex outs now (c :: l) = ex outs (now ++ [n']) q := by
  have k1 := ax_len h
  have k2 := post_len hp
  unfold ex
  rw [pe_step h1 h2 ((ax_pe (by rw [List.length_cons]; omega)).trans h) hp]
  rw [List.length_cons] at k1 ⊢
  exact pe_fuel _ _ _ _ q (by omega) (by omega)
theorem ax_byte {c : UInt8} (l : List UInt8) (h : special c = false) : ax (c :: l) = some (.byte c, l) := by unfold ax; rw [atom, if_pos h]
theorem ax_dot (l : List UInt8) : ax (46 :: l) = some (.cls (fun _ => true), l) := by unfold ax; rw [atom, if_neg (by decide), if_pos rfl]
theorem ax_esc (l : List UInt8) : ax (92 :: l) = escReAt l := by unfold ax; rw [atom, if_neg (by decide), if_neg (by decide), if_pos rfl]
theorem ax_cls (l : List UInt8) : ax (91 :: l) = cls l := by unfold ax; rw [atom, if_neg (by decide), if_neg (by decide), if_neg (by decide), if_pos rfl]
theorem ax_paren (l : List UInt8) : ax (40 :: l) = closed (ex [] [] l) := by unfold ax; rw [atom, if_neg (by decide), if_neg (by decide), if_neg (by decide), if_neg (by decide), if_pos rfl]
theorem ax_bad {c : UInt8} (l : List UInt8) (h : special c = true) (h1 : c ≠ 46) (h2 : c ≠ 92) (h3 : c ≠ 91) (h4 : c ≠ 40) : ax (c :: l) = none := by
  unfold ax
  rw [atom, if_neg (by rw [h]; decide), if_neg h1, if_neg h2, if_neg h3, if_neg h4]
theorem parse_ex (l : List UInt8) : parse l = match ex [] [] l with | some (r, []) => some r | _ => none := rfl
/-- What Check says. -/
def check (l : List UInt8) : Int := if 200 < l.length then 4 else if (parse l).isSome = true then 0 else 3
theorem check_ok {l : List UInt8} : check l = 0 ↔ l.length ≤ 200 ∧ ∃ r, parse l = some r := by
  unfold check
  split
  · exact ⟨fun h => absurd h (by decide), fun h => by omega⟩
  · split
    · rename_i h1 h2
      exact ⟨fun _ => ⟨by omega, Option.isSome_iff_exists.1 h2⟩, fun _ => rfl⟩
    · rename_i h1 h2
      exact ⟨fun h => absurd h (by decide), fun h => absurd (Option.isSome_iff_exists.2 h.2) h2⟩
/-- What Find returns: the place, or nothing. -/
def sub (s : List UInt8) (i k : Nat) : List UInt8 := (s.drop i).take (k - i)
structure Found (r : Re) (s : List UInt8) (i k : Nat) : Prop where
  le : i ≤ k
  len : k ≤ s.length
  mat : Mat r (sub s i k)
  first : ∀ i' k', i' < i → i' ≤ k' → k' ≤ s.length → ¬ Mat r (sub s i' k')
  last : ∀ k', k < k' → k' ≤ s.length → ¬ Mat r (sub s i k')
def Missing (r : Re) (s : List UInt8) : Prop := ∀ i k, i ≤ k → k ≤ s.length → ¬ Mat r (sub s i k)
theorem Found.same {r : Re} {s : List UInt8} {i k i' k' : Nat} (h : Found r s i k) (h' : Found r s i' k') : i = i' ∧ k = k' := by
  have e : i = i' := by
    rcases Nat.lt_trichotomy i i' with hl | hl | hl
    · exact absurd h.mat (h'.first i k hl h.le h.len)
    · exact hl
    · exact absurd h'.mat (h.first i' k' hl h'.le h'.len)
  subst e
  refine ⟨rfl, ?_⟩
  rcases Nat.lt_trichotomy k k' with hl | hl | hl
  · exact absurd h'.mat (h.last k' hl h'.len)
  · exact hl
  · exact absurd h.mat (h'.last k hl h.len)
theorem Found.not_missing {r : Re} {s : List UInt8} {i k : Nat} (h : Found r s i k) (h' : Missing r s) : False := h' i k h.le h.len h.mat
end Go.Proofs.Ytilfggnhaehbcaa.Rx
