/- Layer 7: reading a text, as the reference does it. Layer 7: quoted, letter, operator, value of the reference. Layer 7: value of the reference. Layer 7: one matcher, read by the reference. Layer 7: list, Parse of the reference. Layer 7: Format of the reference. -/
import Derived.Test.YtdeppcddknakjaaGreatDoorCVa
import Derived.Test.YtdeppcddknakjaaGreatDoorCY
import Derived.Deep.AppendLies
set_option maxRecDepth 100000
set_option linter.unusedVariables false
set_option linter.unusedSimpArgs false
namespace Go.Proofs.YtdeppcddknakjaaGreatDoor.Mx
open Go.Proofs.YtdeppcddknakjaaGreatDoor.Lab (quo quo1 quo_nil quo_append quo_one quo1_esc quo1_nl quo1_plain letterB take_snocL)
/-- A quoted value behind its first mark; what follows the second one. -/
def unq : List UInt8 → Option (List UInt8 × List UInt8)
  | [] => none
  | [c] => if c.toNat = 34 then some ([], []) else none
  | c :: d :: r => if c.toNat = 34 then some ([], d :: r) else if c.toNat = 10 then none else
      if c.toNat = 92 then (if d.toNat = 92 ∨ d.toNat = 34 then (unq r).map (fun p => (d :: p.1, p.2)) else if d.toNat = 110 then (unq r).map (fun p => (10 :: p.1, p.2)) else none)
      else (unq (d :: r)).map (fun p => (c :: p.1, p.2))
/-- Bytes ahead of a result. -/
def ahead (o : List UInt8) (x : Option (List UInt8 × List UInt8)) : Option (List UInt8 × List UInt8) := x.map fun p => (o ++ p.1, p.2)
theorem ahead_nil (x : Option (List UInt8 × List UInt8)) : ahead [] x = x := by cases x <;> rfl
theorem ahead_ahead (a b : List UInt8) (x : Option (List UInt8 × List UInt8)) : ahead a (ahead b x) = ahead (a ++ b) x := by cases x <;> simp [ahead]
theorem ahead_none (a : List UInt8) : ahead a none = none := rfl
theorem ahead_some (a b r : List UInt8) : ahead a (some (b, r)) = some (a ++ b, r) := rfl
theorem unq_nil : unq [] = none := rfl
theorem unq_end {c : UInt8} (r : List UInt8) (h : c.toNat = 34) : unq (c :: r) = some ([], r) := by
  cases r with
  | nil => rw [unq, if_pos h]
  | cons d r => rw [unq, if_pos h]
theorem unq_nl {c : UInt8} (r : List UInt8) (h : c.toNat = 10) : unq (c :: r) = none := by
  cases r with
  | nil => rw [unq, if_neg (by omega)]
  | cons d r => rw [unq, if_neg (by omega), if_pos h]
theorem unq_plain {c : UInt8} (r : List UInt8) (h : c.toNat ≠ 34 ∧ c.toNat ≠ 10 ∧ c.toNat ≠ 92) : unq (c :: r) = ahead [c] (unq r) := by
  cases r with
  | nil =>
    have e : unq [c] = none := by rw [unq, if_neg (by omega)]
    rw [e]
    rfl
  | cons d r => rw [unq, if_neg (by omega), if_neg (by omega), if_neg (by omega)]; rfl
theorem unq_esc {c d : UInt8} (r : List UInt8) (h : c.toNat = 92) (hd : d.toNat = 92 ∨ d.toNat = 34) : unq (c :: d :: r) = ahead [d] (unq r) := by
  rw [unq, if_neg (by omega), if_neg (by omega), if_pos h, if_pos hd]; rfl
theorem unq_n {c d : UInt8} (r : List UInt8) (h : c.toNat = 92) (hd : d.toNat = 110) : unq (c :: d :: r) = ahead [10] (unq r) := by
  rw [unq, if_neg (by omega), if_neg (by omega), if_pos h, if_neg (by omega), if_pos hd]; rfl
theorem unq_bad {c d : UInt8} (r : List UInt8) (h : c.toNat = 92) (h1 : ¬ d.toNat = 92) (h2 : ¬ d.toNat = 34) (h3 : ¬ d.toNat = 110) : unq (c :: d :: r) = none := by
  rw [unq, if_neg (by omega), if_neg (by omega), if_pos h, if_neg (by omega), if_neg h3]
theorem unq_one {c : UInt8} (h : c.toNat = 92) : unq [c] = none := by rw [unq, if_neg (by omega)]
/-- What is read is shorter. -/
theorem unq_len : ∀ (l : List UInt8) (a r : List UInt8), unq l = some (a, r) → a.length + r.length + 1 ≤ l.length
  | [], a, r, h => by cases h
  | [c], a, r, h => by
    rw [unq] at h
    split at h
    · cases h; simp
    · cases h
  | c :: d :: l, a, r, h => by
    rw [unq] at h
    split at h
    · cases h; simp
    · split at h
      · cases h
      · split at h
        · split at h
          · cases hu : unq l with
            | none => rw [hu] at h; cases h
            | some p =>
              rw [hu] at h
              cases h
              have := unq_len l p.1 p.2 hu
              simp only [List.length_cons]
              omega
          · split at h
            · cases hu : unq l with
              | none => rw [hu] at h; cases h
              | some p =>
                rw [hu] at h
                cases h
                have := unq_len l p.1 p.2 hu
                simp only [List.length_cons]
                omega
            · cases h
        · cases hu : unq (d :: l) with
          | none => rw [hu] at h; cases h
          | some p =>
            rw [hu] at h
            cases h
            have := unq_len (d :: l) p.1 p.2 hu
            simp only [List.length_cons] at this ⊢
            omega
theorem quo_cons (c : UInt8) (v : List UInt8) : quo (c :: v) = quo1 c ++ quo v := by rw [show c :: v = [c] ++ v from rfl, quo_append, quo_one]
theorem unq_quo : ∀ (v r : List UInt8), unq (quo v ++ 34 :: r) = some (v, r)
  | [], r => by rw [quo_nil, List.nil_append]; exact unq_end r rfl
  | c :: v, r => by
    have ih := unq_quo v r
    rw [quo_cons, List.append_assoc]
    unfold quo1
    split
    · rename_i h
      have e : c = 10 := UInt8.toNat_inj.1 h
      subst e
      show unq (92 :: 110 :: (quo v ++ 34 :: r)) = _
      rw [unq_n _ rfl rfl, ih]
      rfl
    · split
      · rename_i h
        show unq (92 :: c :: (quo v ++ 34 :: r)) = _
        rw [unq_esc _ rfl h, ih]
        rfl
      · show unq (c :: (quo v ++ 34 :: r)) = _
        rw [unq_plain _ ⟨by omega, by omega, by omega⟩, ih]
        rfl
theorem quo_unq : ∀ (t v r : List UInt8), unq t = some (v, r) → t = quo v ++ 34 :: r
  | [], v, r, h => by cases h
  | [c], v, r, h => by
    rw [unq] at h
    split at h
    · rename_i hc
      cases h
      rw [show c = 34 from UInt8.toNat_inj.1 hc]
      rfl
    · cases h
  | c :: d :: t, v, r, h => by
    rw [unq] at h
    split at h
    · rename_i hc
      cases h
      rw [show c = 34 from UInt8.toNat_inj.1 hc]
      rfl
    · rename_i n34
      split at h
      · cases h
      · rename_i n10
        split at h
        · rename_i h92
          have e : c = 92 := UInt8.toNat_inj.1 h92
          subst e
          split at h
          · rename_i hd
            cases hu : unq t with
            | none => rw [hu] at h; cases h
            | some p =>
              rw [hu] at h
              cases h
              rw [quo_cons, quo1_esc (by omega) hd, quo_unq t p.1 p.2 hu]
              rfl
          · split at h
            · rename_i hd
              cases hu : unq t with
              | none => rw [hu] at h; cases h
              | some p =>
                rw [hu] at h
                cases h
                rw [quo_cons, quo_unq t p.1 p.2 hu, show d = 110 from UInt8.toNat_inj.1 hd]
                rfl
            · cases h
        · rename_i n92
          cases hu : unq (d :: t) with
          | none => rw [hu] at h; cases h
          | some p =>
            rw [hu] at h
            cases h
            rw [quo_cons, quo_unq (d :: t) p.1 p.2 hu]
            unfold quo1
            rw [if_neg n10, if_neg (by omega)]
            rfl
/-- A matcher, and what is behind it. -/
def oneR (s : List UInt8) : Option (Mt × List UInt8) :=
  if wordL s = [] then none else
  match opN (restL s) with
  | none => none
  | some (k, b) => match unq b with
    | none => none
    | some (v, r) => some (⟨k, ⟨(wordL s).toArray⟩, ⟨v.toArray⟩⟩, r)
theorem oneR_word {s : List UInt8} (h : wordL s = []) : oneR s = none := by unfold oneR; rw [if_pos h]
theorem oneR_op {s : List UInt8} (h : opN (restL s) = none) : oneR s = none := by
  unfold oneR
  split
  · rfl
  · rw [h]
theorem oneR_val {s b : List UInt8} {k : Int} (h : opN (restL s) = some (k, b)) (h2 : unq b = none) : oneR s = none := by
  unfold oneR
  split
  · rfl
  · rw [h]
    show (match unq b with | none => none | some (v, r) => some (_, r)) = none
    rw [h2]
theorem oneR_yes {s b v r : List UInt8} {k : Int} (h0 : wordL s ≠ []) (h : opN (restL s) = some (k, b)) (h2 : unq b = some (v, r)) : oneR s = some (⟨k, ⟨(wordL s).toArray⟩, ⟨v.toArray⟩⟩, r) := by
  unfold oneR
  rw [if_neg h0, h]
  show (match unq b with | none => none | some (v, r) => some (_, r)) = some _
  rw [h2]
theorem isPrefix_drop {p r : List UInt8} (h : p.isPrefixOf r = true) : r = p ++ r.drop p.length := by
  obtain ⟨t, ht⟩ := List.isPrefixOf_iff_prefix.1 h
  rw [← ht, List.drop_left]
theorem opN_eq {r b : List UInt8} {k : Int} (h : opN r = some (k, b)) : r = opB k ++ 34 :: b := by
  unfold opN at h
  split at h
  · rename_i hp
    injection h with h; injection h with h1 h2
    rw [← h1, ← h2]
    exact isPrefix_drop hp
  · split at h
    · rename_i hp
      injection h with h; injection h with h1 h2
      rw [← h1, ← h2]
      exact isPrefix_drop hp
    · split at h
      · rename_i hp
        injection h with h; injection h with h1 h2
        rw [← h1, ← h2]
        exact isPrefix_drop hp
      · split at h
        · rename_i hp
          injection h with h; injection h with h1 h2
          rw [← h1, ← h2]
          exact isPrefix_drop hp
        · cases h
theorem oneR_mat {m : Mt} (h : GoodM m) (r : List UInt8) : oneR (mat1 m ++ r) = some (m, r) := by
  obtain ⟨hk, hn, hw⟩ := h
  obtain ⟨c, t, ht, hc⟩ := op_not m.k hk (34 :: (quo m.v.data.toList ++ 34 :: r))
  have e : mat1 m ++ r = m.n.data.toList ++ (opB m.k ++ (34 :: (quo m.v.data.toList ++ 34 :: r))) := by
    unfold mat1 qtd
    simp [List.append_assoc]
  obtain ⟨h1, h2⟩ := take_word (t := t) hw hc
  have h3 := opN_op hk (quo m.v.data.toList ++ 34 :: r)
  rw [e, ht]
  have h4 := oneR_yes (s := m.n.data.toList ++ c :: t) (k := m.k) (b := quo m.v.data.toList ++ 34 :: r) (v := m.v.data.toList) (r := r) (by rw [h1]; exact hn) (by rw [h2, ← ht]; exact h3) (unq_quo _ _)
  rw [h4, h1]
theorem oneR_inv {s r : List UInt8} {m : Mt} (h : oneR s = some (m, r)) : GoodM m ∧ s = mat1 m ++ r := by
  by_cases h0 : wordL s = []
  · rw [oneR_word h0] at h; cases h
  · cases ho : opN (restL s) with
    | none => rw [oneR_op ho] at h; cases h
    | some p =>
      obtain ⟨k, b⟩ := p
      cases hu : unq b with
      | none => rw [oneR_val ho hu] at h; cases h
      | some q =>
        obtain ⟨v, r'⟩ := q
        rw [oneR_yes h0 ho hu] at h
        injection h with h
        injection h with h1 h2
        rw [← h1, ← h2]
        refine ⟨⟨opN_kind ho, h0, fun c hc => List.all_eq_true.1 (List.all_takeWhile (l := s)) c hc⟩, ?_⟩
        have e1 : s = wordL s ++ restL s := List.takeWhile_append_dropWhile.symm
        have e2 := opN_eq ho
        have e3 := quo_unq _ _ _ hu
        unfold mat1 qtd
        show s = wordL s ++ opB k ++ ([34] ++ quo v ++ [34]) ++ r'
        rw [List.append_assoc, List.append_assoc, show [34] ++ quo v ++ [34] ++ r' = 34 :: (quo v ++ 34 :: r') by simp, ← e3, ← e2]
        exact e1
theorem oneR_len {s r : List UInt8} {m : Mt} (h : oneR s = some (m, r)) : r.length + 4 ≤ s.length := by
  obtain ⟨h1, h2⟩ := oneR_inv h
  have h3 := congrArg List.length h2
  have h4 : 0 < m.n.data.toList.length := by
    rcases Nat.eq_zero_or_pos m.n.data.toList.length with h | h
    · exact absurd (List.eq_nil_of_length_eq_zero h) h1.2.1
    · exact h
  have h5 : 0 < (opB m.k).length := by
    unfold opB
    split
    · simp
    · split
      · simp
      · split <;> simp
  unfold mat1 qtd at h3
  simp only [List.length_append, List.length_singleton] at h3
  omega
/-- Matchers with commas between them, and the brace. -/
def lsR : Nat → List UInt8 → Option (List Mt)
  | 0, _ => none
  | f + 1, l =>
    match oneR l with
    | none => none
    | some (x, r) =>
      match r with
      | [] => none
      | c :: r' => if c.toNat = 44 then (lsR f r').map (fun m => x :: m) else if c.toNat = 125 ∧ r' = [] then some [x] else none
/-- A text. -/
def txtR : List UInt8 → Option (List Mt)
  | [] => none
  | c :: r => if c.toNat = 123 then (if r = [125] then some [] else lsR (r.length + 1) r) else none
theorem lsR_none {f : Nat} {l : List UInt8} (h : oneR l = none) : lsR (f + 1) l = none := by rw [lsR, h]
theorem lsR_end {f : Nat} {l : List UInt8} {x : Mt} (h : oneR l = some (x, [])) : lsR (f + 1) l = none := by rw [lsR, h]
theorem lsR_comma {f : Nat} {l r : List UInt8} {x : Mt} (h : oneR l = some (x, 44 :: r)) : lsR (f + 1) l = (lsR f r).map (fun m => x :: m) := by
  rw [lsR, h]
  exact if_pos (show UInt8.toNat 44 = 44 from rfl)
theorem lsR_last {f : Nat} {l : List UInt8} {x : Mt} (h : oneR l = some (x, [125])) : lsR (f + 1) l = some [x] := by
  rw [lsR, h]
  rfl
theorem lsR_bad {f : Nat} {l r : List UInt8} {x : Mt} {c : UInt8} (h : oneR l = some (x, c :: r)) (h1 : c ≠ 44) (h2 : ¬ (c = 125 ∧ r = [])) : lsR (f + 1) l = none := by
  rw [lsR, h]
  exact (if_neg (show ¬ c.toNat = 44 from fun e => h1 (UInt8.toNat_inj.1 e))).trans (if_neg (show ¬ (c.toNat = 125 ∧ r = []) from fun e => h2 ⟨UInt8.toNat_inj.1 e.1, e.2⟩))
theorem lsR_body : ∀ (l : List Mt) (f : Nat), l ≠ [] → (∀ x ∈ l, GoodM x) → l.length ≤ f → lsR f (bodyM l ++ [125]) = some l
  | [], _, h, _, _ => absurd rfl h
  | [x], f, _, h, hf => by
    match f, hf with
    | f + 1, _ =>
      have e : bodyM [x] ++ [125] = mat1 x ++ [125] := by simp [bodyM, tailM]
      rw [e]
      exact lsR_last (oneR_mat (h x (by simp)) _)
  | x :: y :: r, f, _, h, hf => by
    match f, hf with
    | f + 1, hf =>
      have e : bodyM (x :: y :: r) ++ [125] = mat1 x ++ 44 :: (bodyM (y :: r) ++ [125]) := by simp [bodyM, tailM, List.append_assoc]
      rw [e, lsR_comma (oneR_mat (h x (by simp)) _), lsR_body (y :: r) f (by simp) (fun z hz => h z (by simp [hz])) (by simp only [List.length_cons] at hf ⊢; omega)]
      rfl
theorem mat1_pos (x : Mt) : 2 ≤ (mat1 x).length := by unfold mat1 qtd; simp only [List.length_append, List.length_singleton]; omega
theorem bodyM_pos2 : ∀ l : List Mt, l.length ≤ (bodyM l).length
  | [] => by simp
  | [x] => by have := mat1_pos x; simp only [bodyM, tailM, List.flatMap_nil, List.append_nil, List.length_singleton]; omega
  | x :: y :: r => by
    have h := bodyM_pos2 (y :: r)
    have e : bodyM (x :: y :: r) = mat1 x ++ 44 :: bodyM (y :: r) := by simp [bodyM, tailM]
    rw [e]
    simp only [List.length_append, List.length_cons] at h ⊢
    omega
theorem mat1_big {x : Mt} (h : GoodM x) : 3 ≤ (mat1 x).length := by
  have h4 : 0 < x.n.data.toList.length := by
    rcases Nat.eq_zero_or_pos x.n.data.toList.length with h1 | h1
    · exact absurd (List.eq_nil_of_length_eq_zero h1) h.2.1
    · exact h1
  unfold mat1 qtd
  simp only [List.length_append, List.length_singleton]
  omega
theorem txtR_txt {l : List Mt} (h : ∀ x ∈ l, GoodM x) : txtR (txtM l) = some l := by
  show txtR (123 :: (bodyM l ++ [125])) = some l
  rw [txtR, if_pos (show UInt8.toNat 123 = 123 from rfl)]
  cases l with
  | nil => rfl
  | cons x r =>
    have h1 := bodyM_pos2 (x :: r)
    rw [if_neg (fun e => by have e1 := congrArg List.length e; simp only [List.length_append, List.length_singleton, List.length_cons, List.length_nil] at e1 h1; omega)]
    exact lsR_body _ _ (by simp) h (by rw [List.length_append]; omega)
theorem lsR_inv : ∀ (f : Nat) (t : List UInt8) (m : List Mt), lsR f t = some m → m ≠ [] ∧ (∀ x ∈ m, GoodM x) ∧ t = bodyM m ++ [125]
  | 0, _, _, h => by cases h
  | f + 1, t, m, h => by
    cases hl : oneR t with
    | none => rw [lsR_none hl] at h; cases h
    | some p =>
      obtain ⟨x, r⟩ := p
      obtain ⟨hg, e⟩ := oneR_inv hl
      cases r with
      | nil => rw [lsR_end hl] at h; cases h
      | cons c r =>
        by_cases hc : c = 44
        · subst hc
          rw [lsR_comma hl] at h
          cases hf : lsR f r with
          | none => rw [hf] at h; cases h
          | some m' =>
            rw [hf] at h
            cases h
            obtain ⟨hne, hgs, e2⟩ := lsR_inv f r m' hf
            cases m' with
            | nil => exact absurd rfl hne
            | cons y q =>
              refine ⟨by simp, fun z hz => ?_, ?_⟩
              · rcases List.mem_cons.1 hz with rfl | hz
                · exact hg
                · exact hgs z hz
              · rw [e, e2]
                simp [bodyM, tailM, List.append_assoc]
        · by_cases hq : c = 125 ∧ r = []
          · obtain ⟨rfl, rfl⟩ := hq
            rw [lsR_last hl] at h
            cases h
            refine ⟨by simp, fun z hz => ?_, ?_⟩
            · rw [List.mem_singleton] at hz; subst hz; exact hg
            · rw [e]
              simp [bodyM, tailM]
          · rw [lsR_bad hl hc hq] at h; cases h
theorem txtR_inv {t : List UInt8} {m : List Mt} (h : txtR t = some m) : (∀ x ∈ m, GoodM x) ∧ txtM m = t := by
  cases t with
  | nil => cases h
  | cons c r =>
    rw [txtR] at h
    split at h
    · rename_i hc
      rw [show c = 123 from UInt8.toNat_inj.1 hc]
      split at h
      · rename_i hr
        cases h
        rw [hr]
        exact ⟨fun x hx => (by cases hx), rfl⟩
      · obtain ⟨_, h2, h3⟩ := lsR_inv _ r m h
        rw [h3]
        exact ⟨h2, rfl⟩
    · cases h
/-- The reference reads what the program reads. -/
theorem txtR_eq (s : List UInt8) : txtR s = if txtM (rdA s) = s then some (rdA s) else none := by
  by_cases h : txtM (rdA s) = s
  · rw [if_pos h]
    have h2 := txtR_txt (rdA_good s)
    rw [h] at h2
    exact h2
  · rw [if_neg h]
    cases ht : txtR s with
    | none => rfl
    | some m =>
      obtain ⟨h1, h2⟩ := txtR_inv ht
      exact absurd (by rw [← h2, rdA_txt h1]) h
end Go.Proofs.YtdeppcddknakjaaGreatDoor.Mx
namespace Go.Proofs.YtdeppcddknakjaaGreatDoor.Mx
open Go.RowKit
open Go.Proofs.YtdeppcddknakjaaGreatDoor.Rx (EmpP SameP)
open Go.Proofs.YtdeppcddknakjaaGreatDoor.Lab (nameB getL Lb LS StrPost letterB quo quo1 quo_nil quo_len quo_snoc quo1_nl quo1_esc quo1_plain OwnB OwnB.snoc OwnB.conv OwnB.below row_below info5 ba_mk emp_true emp_false ret_bool)
set_option maxHeartbeats 4000000 in
theorem quotedM_any (s : ByteArray) (hs : s.size ≤ 100000) (w : World) : Calls Tryz.prog 46 #[.string s] w (StrPost (quo s.data.toList) w) := by
  obtain ⟨i0, hi, hz0, hz1, hz2⟩ := info_parts info5
  have O0 : Hid (OwnB (w.alloc (.cells #[] 5)) w.heap.size (.slice (some ⟨w.heap.size, 0, none⟩) 0 0) []) := World.ownsRow_made w #[] 0 (Nat.le_refl _) (by unfold maxLen; omega) (by simp)
  have B0 : Hid (Below w.heap.size w (w.alloc (.cells #[] 5))) := (Below.refl _ _).alloc (Nat.le_refl _) _
  go_enter Tryz.func46, Tryz.ntmps46
  go_wp2
  go_loopw [3, 4] (fun vo vi wr => ∃ k : Nat, k ≤ s.size ∧ vi = .int .i64 k ∧ Hid (OwnB wr w.heap.size vo (quo (s.data.toList.take k))) ∧ Hid (Below w.heap.size w wr)) (fun _ vi _ => s.size - (intOf vi).toNat)
  case atStart => exact ⟨0, by omega, rfl, O0, B0⟩
  case round =>
    clear O0 B0
    obtain ⟨k, hk, rfl, HO, HB⟩ := hrel
    by_cases hlt : k < s.size
    · have HE := Lib.hid (quo_snoc s hlt)
      have hc256 := s[k].toNat_lt
      obtain ⟨m, hm⟩ : ∃ m, quo (s.data.toList.take k) = m := ⟨_, rfl⟩
      have hml : m.length ≤ 200000 := by
        have h1 := quo_len (s.data.toList.take k)
        have h2 : (s.data.toList.take k).length ≤ k := List.length_take_le _ _
        rw [← hm]; omega
      rw [hm] at HO HE
      clear hm
      have HSZ := Lib.hid HB.out.size
      by_cases hesc : s[k].toNat = 92 ∨ s[k].toNat = 34
      · have HQ := Lib.hid (quo1_esc (c := s[k]) (by omega) hesc)
        have hes : (((s[k].toNat : Int) == 92) = true) ∨ (((s[k].toNat : Int) == 92) = false ∧ ((s[k].toNat : Int) == 34) = true) := by
          rcases hesc with h | h
          · exact .inl (by simp [h])
          · exact .inr ⟨by simp [h], by simp [h]⟩
        clear hesc
        rcases hes with t2 | ⟨t2, t3⟩
        all_goals
          go_wp2_with (at_builtin; refine wpList_append_own _ rfl (.tmp 22) (.tmp 26) 78 rfl w.heap.size 5 i0 _ 1 1 Tryz.underlying78 hi hz0 hz1 hz2 rfl (by decide) _ _ _ rfl (HO.out.below ((Below.refl _ _).alloc (Nat.le_refl _) _)) ⟨wr.heap.size, 0, none⟩ 2 2 [.int .u8 92, .int .u8 (s[k].toNat : Int)] rfl rfl (cell_two_new _ _ _ _) (by simp [Value.oneCell']) (by simp only [maxLen]; omega) (by omega) (by have := HSZ.out; simp; omega) ?_; intro v1 w1 hown' hgrow _; have HO1 := Lib.hid hown'; have HG1 := Lib.hid hgrow; clear hown' hgrow)
          have B1 := Lib.hid (row_below HB.out HO.out ((Below.refl _ _).alloc (Nat.le_refl _) _) HG1.out HSZ.out)
          go_roundw
          case rel => exact ⟨k + 1, by omega, by go_num, by rw [HE.out, HQ.out]; exact OwnB.snoc HO1.out rfl rfl, B1⟩
          case measure => simp [intOf]; omega
      · have t2 : ((s[k].toNat : Int) == 92) = false := by simp; omega
        have t3 : ((s[k].toNat : Int) == 34) = false := by simp; omega
        by_cases hc : s[k].toNat = 10
        · have HQ := Lib.hid (quo1_nl hc)
          have t1 : ((s[k].toNat : Int) == 10) = true := by simp [hc]
          clear hc hesc
          go_wp2_with (at_builtin; refine wpList_append_own _ rfl (.tmp 32) (.tmp 33) 78 rfl w.heap.size 5 i0 _ 1 1 Tryz.underlying78 hi hz0 hz1 hz2 rfl (by decide) _ _ _ rfl (HO.out.below ((Below.refl _ _).alloc (Nat.le_refl _) _)) ⟨wr.heap.size, 0, none⟩ 2 2 [.int .u8 92, .int .u8 110] rfl rfl (cell_two_new _ _ _ _) (by simp [Value.oneCell']) (by simp only [maxLen]; omega) (by omega) (by have := HSZ.out; simp; omega) ?_; intro v1 w1 hown' hgrow _; have HO1 := Lib.hid hown'; have HG1 := Lib.hid hgrow; clear hown' hgrow)
          have B1 := Lib.hid (row_below HB.out HO.out ((Below.refl _ _).alloc (Nat.le_refl _) _) HG1.out HSZ.out)
          go_roundw
          case rel => exact ⟨k + 1, by omega, by go_num, by rw [HE.out, HQ.out]; exact OwnB.snoc HO1.out rfl rfl, B1⟩
          case measure => simp [intOf]; omega
        · have t1 : ((s[k].toNat : Int) == 10) = false := by simp; omega
          have HQ := Lib.hid (quo1_plain hc (fun h => hesc (.inl h)) (fun h => hesc (.inr h)))
          clear hc hesc
          go_wp2_with (at_builtin; refine wpList_append_own _ rfl (.tmp 35) (.tmp 39) 78 rfl w.heap.size 5 i0 _ 1 1 Tryz.underlying78 hi hz0 hz1 hz2 rfl (by decide) _ _ _ rfl (HO.out.below ((Below.refl _ _).alloc (Nat.le_refl _) _)) ⟨wr.heap.size, 0, none⟩ 1 1 [.int .u8 (s[k].toNat : Int)] rfl rfl (cell_one_new _ _ _) (by simp [Value.oneCell']) (by simp only [maxLen]; omega) (by omega) (by have := HSZ.out; simp; omega) ?_; intro v1 w1 hown' hgrow _; have HO1 := Lib.hid hown'; have HG1 := Lib.hid hgrow; clear hown' hgrow)
          have B1 := Lib.hid (row_below HB.out HO.out ((Below.refl _ _).alloc (Nat.le_refl _) _) HG1.out HSZ.out)
          go_roundw
          case rel => exact ⟨k + 1, by omega, by go_num, by rw [HE.out, HQ.out]; exact OwnB.snoc HO1.out rfl rfl, B1⟩
          case measure => simp [intOf]; omega
    · obtain rfl : k = s.size := by omega
      have h2 := HO.out
      rw [List.take_of_length_le (by rw [Array.length_toList]; exact Nat.le_refl _)] at h2
      generalize quo s.data.toList = q at *
      obtain ⟨A, n, cap, rfl, hcv⟩ := h2.conv
      clear HO h2
      go_wp2
      go_ret
      exact ⟨rfl, HB.out⟩
set_option maxHeartbeats 1000000 in
theorem letterM_any (c : Nat) (w : World) : Calls Tryz.prog 106 #[.int .u8 (c : Int)] w fun e w' => e = .returned (.bool (letterB c)) ∧ w = w' := by
  go_enter Tryz.func106, Tryz.ntmps106
  go_wp2
  all_goals
    go_ret
    refine ⟨ret_bool ?_, rfl⟩
    unfold letterB
    rw [Bool.eq_iff_iff]
    simp only [Bool.or_eq_true, Bool.and_eq_true, decide_eq_true_eq, beq_iff_eq, Bool.false_eq_true, false_or, or_false, true_and, and_true, true_iff, false_iff]
    omega
/-- The operator at the beginning. -/
def opR (r : List UInt8) : Int × Nat := if [61, 126].isPrefixOf r then (3, 2) else if [33, 126].isPrefixOf r then (4, 2) else if [33, 61].isPrefixOf r then (2, 2) else if [61].isPrefixOf r then (1, 1) else (0, 0)
theorem take2 {r : ByteArray} (h : 2 ≤ r.size) (a b : UInt8) : ((r.extract 0 2).toList == [a, b]) = [a, b].isPrefixOf r.data.toList := by
  rw [ByteArray.toList_eq]
  have h1 : (r.extract 0 2).data.toList = r.data.toList.take 2 := by simp [ByteArray.data_extract]
  rw [h1, Bool.eq_iff_iff, beq_iff_eq, List.isPrefixOf_iff_prefix]
  constructor
  · intro e; rw [← e]; exact List.take_prefix _ _
  · rintro ⟨t, ht⟩; rw [← ht]; rfl
theorem pfx_short {r : ByteArray} {p : List UInt8} (h : r.size < p.length) : p.isPrefixOf r.data.toList = false := by
  rw [← Bool.not_eq_true, List.isPrefixOf_iff_prefix]
  intro e
  have h1 := e.length_le
  have h2 : r.data.toList.length = r.size := Array.length_toList
  omega
theorem pfx_one {r : ByteArray} (h : 0 < r.size) (a : UInt8) : [a].isPrefixOf r.data.toList = ((r[0].toNat : Int) == (a.toNat : Int)) := by
  have e : r.data.toList = r[0] :: r.data.toList.drop 1 := Lab.drop_cons r h
  rw [e]
  show (a == r[0] && List.isPrefixOf [] _) = _
  rw [Bool.eq_iff_iff]
  simp only [Bool.and_eq_true, beq_iff_eq, List.isPrefixOf_nil_left, and_true]
  constructor
  · rintro rfl; rfl
  · intro h; exact UInt8.toNat_inj.1 (by omega)
set_option maxHeartbeats 4000000 in
theorem operatorM_any (s : ByteArray) (hs : s.size ≤ 1000000) (w : World) : Calls Tryz.prog 107 #[.string s] w fun e w' => e = .returned (.tuple #[.int .i64 (opR s.data.toList).1, .int .i64 ((opR s.data.toList).2 : Nat)]) ∧ w = w' := by
  obtain ⟨r, hr⟩ : ∃ r, r = opR s.data.toList := ⟨_, rfl⟩
  rw [← hr]
  unfold opR at hr
  by_cases h2 : 2 ≤ s.size
  · have g2 : decide (2 ≤ s.size) = true := decide_eq_true h2
    have e1 := take2 h2 61 126
    have e2 := take2 h2 33 126
    have e3 := take2 h2 33 61
    have e4 := pfx_one (show 0 < s.size by omega) 61
    generalize [61, 126].isPrefixOf s.data.toList = b1 at *
    generalize [33, 126].isPrefixOf s.data.toList = b2 at *
    generalize [33, 61].isPrefixOf s.data.toList = b3 at *
    generalize [61].isPrefixOf s.data.toList = b4 at *
    have e4' : ((s[0].toNat : Int) == 61) = b4 := e4.symm
    clear e4
    cases b1
    · cases b2
      · cases b3
        · cases b4
          · subst hr
            go_enter Tryz.func107, Tryz.ntmps107
            go_wp2
            go_ret2
            exact ⟨rfl, rfl⟩
          · subst hr
            go_enter Tryz.func107, Tryz.ntmps107
            go_wp2
            go_ret2
            exact ⟨rfl, rfl⟩
        · subst hr
          go_enter Tryz.func107, Tryz.ntmps107
          go_wp2
          go_ret2
          exact ⟨rfl, rfl⟩
      · subst hr
        go_enter Tryz.func107, Tryz.ntmps107
        go_wp2
        go_ret2
        exact ⟨rfl, rfl⟩
    · subst hr
      go_enter Tryz.func107, Tryz.ntmps107
      go_wp2
      go_ret2
      exact ⟨rfl, rfl⟩
  · rw [pfx_short (p := [61, 126]) (by simp; omega), pfx_short (p := [33, 126]) (by simp; omega), pfx_short (p := [33, 61]) (by simp; omega)] at hr
    by_cases h1 : 1 ≤ s.size
    · have e4' := (pfx_one (show 0 < s.size by omega) 61).symm
      generalize [61].isPrefixOf s.data.toList = b4 at *
      have e4 : ((s[0].toNat : Int) == 61) = b4 := e4'
      clear e4'
      cases b4
      · subst hr
        go_enter Tryz.func107, Tryz.ntmps107
        go_wp2
        go_ret2
        exact ⟨rfl, rfl⟩
      · subst hr
        go_enter Tryz.func107, Tryz.ntmps107
        go_wp2
        go_ret2
        exact ⟨rfl, rfl⟩
    · rw [pfx_short (p := [61]) (show s.size < 1 by omega)] at hr
      subst hr
      go_enter Tryz.func107, Tryz.ntmps107
      go_wp2
      go_ret2
      exact ⟨rfl, rfl⟩
end Go.Proofs.YtdeppcddknakjaaGreatDoor.Mx
namespace Go.Proofs.YtdeppcddknakjaaGreatDoor.Mx
open Go.RowKit
open Go.Proofs.YtdeppcddknakjaaGreatDoor.Rx (EmpP SameP)
open Go.Proofs.YtdeppcddknakjaaGreatDoor.Lab (nameB getL Lb LS StrPost letterB OwnB OwnB.snoc OwnB.conv OwnB.below row_below info5 ba_mk drop_cons)
/-- A quoted value at the beginning. -/
def valU : List UInt8 → Option (List UInt8 × List UInt8)
  | [] => none
  | c :: r => if c.toNat = 34 then unq r else none
structure VRes (u : Option (List UInt8 × List UInt8)) (s : ByteArray) (t : ByteArray) (n : Nat) : Prop where
  yes : 0 < n → u = some (t.data.toList, s.data.toList.drop n)
  no : n = 0 → u = none
  le : n ≤ s.size
def VResP (s : ByteArray) (w : World) (e : Ending) (w' : World) : Prop :=
  ∃ (t : ByteArray) (n : Nat), e = .returned (.tuple #[.string t, .int .i64 (n : Int)]) ∧ Below w.heap.size w w' ∧ VRes (valU s.data.toList) s t n
structure RV (u : Option (List UInt8 × List UInt8)) (s : ByteArray) (w : World) (j : Nat) (o : List UInt8) (vo : Value) (V : World) : Prop where
  own : OwnB V w.heap.size vo o
  bel : Below w.heap.size w V
  eq : u = ahead o (unq (s.data.toList.drop j))
  len : o.length + 1 ≤ j
def mkB (l : List UInt8) : ByteArray := ⟨l.toArray⟩
set_option maxHeartbeats 8000000 in
theorem valueM_any (s : ByteArray) (hs : s.size ≤ 1000000) (w : World) : Calls Tryz.prog 108 #[.string s] w (VResP s w) := by
  obtain ⟨i0, hi, hz0, hz1, hz2⟩ := info_parts info5
  have BA : Hid (Below w.heap.size w (w.alloc (.cells #[] 5))) := (Below.refl _ _).alloc (Nat.le_refl _) _
  unfold VResP
  by_cases h0 : s.size = 0
  · have g0 : ((s.size : Int) == 0) = true := by simp [h0]
    have OK : Hid (VRes (valU s.data.toList) s ⟨#[]⟩ 0) := by
      refine ⟨fun h => absurd h (Nat.lt_irrefl _), fun _ => ?_, Nat.zero_le _⟩
      rw [show s.data.toList = [] from List.eq_nil_of_length_eq_zero (by rw [Array.length_toList]; exact h0)]; rfl
    go_enter Tryz.func108, Tryz.ntmps108
    go_wp2
    go_ret2
    exact ⟨⟨#[]⟩, 0, rfl, BA.out, OK.out⟩
  · have hpos : 0 < s.size := by omega
    have g0 : ((s.size : Int) == 0) = false := by rw [beq_eq_false_iff_ne]; omega
    have D0 : Hid (s.data.toList = s[0] :: s.data.toList.drop 1) := drop_cons s hpos
    by_cases h34 : s[0].toNat = 34
    · have t0 : ((s[0].toNat : Int) != 34) = false := by simp; omega
      obtain ⟨u, hu⟩ : ∃ u, u = valU s.data.toList := ⟨_, rfl⟩
      rw [← hu]
      have V0 : Hid (RV u s w 1 [] (.slice (some ⟨w.heap.size, 0, none⟩) 0 0) (w.alloc (.cells #[] 5))) :=
        ⟨World.ownsRow_made w #[] 0 (Nat.le_refl _) (by unfold maxLen; omega) (by simp), BA.out, by rw [hu, D0.out, valU, if_pos h34, ahead_nil]; rfl, by simp⟩
      clear hu h34 D0 h0 BA
      go_enter Tryz.func108, Tryz.ntmps108
      go_wp2
      go_loopw [4, 5] (fun vo vi wr => ∃ (j : Nat) (o : List UInt8), j ≤ s.size ∧ vi = .int .i64 (j : Int) ∧ Hid (RV u s w j o vo wr)) (fun _ vi _ => s.size - (intOf vi).toNat)
      case atStart => exact ⟨1, [], hpos, rfl, V0⟩
      case round =>
        clear V0 t0 g0
        obtain ⟨j, o, hj, rfl, H⟩ := hrel
        have hol : o.length ≤ 1000000 := by have := H.out.len; omega
        have HSZ := Lib.hid H.out.bel.size
        by_cases hlt : j < s.size
        · have D0 := Lib.hid (drop_cons s hlt)
          have hc256 := s[j].toNat_lt
          by_cases h34 : s[j].toNat = 34
          · have t1 : ((s[j].toNat : Int) == 34) = true := by simp [h34]
            have OK : Hid (VRes u s (mkB o) (j + 1)) := by
              refine ⟨fun _ => ?_, fun h => by omega, by omega⟩
              rw [H.out.eq, D0.out, unq_end _ h34, ahead_some, List.append_nil]
              rfl
            have hown := H.out.own
            obtain ⟨A, n, cap, rfl, hcv⟩ := hown.conv
            clear h34 hown
            go_wp2
            go_ret2
            exact ⟨mkB o, j + 1, by first | rfl | simp [mkB], H.out.bel, OK.out⟩
          · have t1 : ((s[j].toNat : Int) == 34) = false := by simp; omega
            by_cases h10 : s[j].toNat = 10
            · have t2 : ((s[j].toNat : Int) == 10) = true := by simp [h10]
              have OK : Hid (VRes u s ⟨#[]⟩ 0) := by
                refine ⟨fun h => absurd h (Nat.lt_irrefl _), fun _ => ?_, Nat.zero_le _⟩
                rw [H.out.eq, D0.out, unq_nl _ h10]; rfl
              clear h34 h10
              go_wp2
              go_ret2
              exact ⟨⟨#[]⟩, 0, rfl, H.out.bel, OK.out⟩
            · have t2 : ((s[j].toNat : Int) == 10) = false := by simp; omega
              by_cases h92 : s[j].toNat = 92
              · have t3 : ((s[j].toNat : Int) == 92) = true := by simp [h92]
                by_cases hlt2 : j + 1 < s.size
                · have D1 := Lib.hid (drop_cons s hlt2)
                  have hd256 := s[j + 1].toNat_lt
                  have g5 : (((j + 1 : Nat) : Int) == (s.size : Int)) = false := by simp; omega
                  have g5' : (((j : Int) + 1) == (s.size : Int)) = false := by simp; omega
                  by_cases h110 : s[j + 1].toNat = 110
                  · have t6 : ((s[j + 1].toNat : Int) != 110) = false := by simp; omega
                    have t7 : ((s[j + 1].toNat : Int) == 110) = true := by simp; omega
                    have E1 : Hid (u = ahead (o ++ [10]) (unq (s.data.toList.drop (j + 1 + 1)))) := by
                      rw [H.out.eq, D0.out, D1.out, unq_n _ h92 h110, ahead_ahead]
                      rfl
                    clear h34 h10 h92 h110
                    go_wp2_with (at_builtin; refine wpList_append_own _ rfl (.tmp 64) (.tmp 66) 78 rfl w.heap.size 5 i0 _ 1 1 Tryz.underlying78 hi hz0 hz1 hz2 rfl (by decide) u4 _ _ rfl (H.out.own.below ((Below.refl _ _).alloc (Nat.le_refl _) _)) ⟨wr.heap.size, 0, none⟩ 1 1 [.int .u8 10] rfl rfl (cell_one_new _ _ _) (by simp [Value.oneCell']) (by simp only [maxLen]; omega) (by omega) (by have := HSZ.out; simp; omega) ?_; intro v1 w1 hown' hgrow _; have O1 := Lib.hid (OwnB.snoc (m := [10]) hown' rfl rfl); have B1 := Lib.hid (row_below H.out.bel H.out.own ((Below.refl _ _).alloc (Nat.le_refl _) _) hgrow HSZ.out); clear hown' hgrow)
                    go_roundw
                    case rel => exact ⟨j + 1 + 1, _, by omega, by go_num, ⟨O1.out, B1.out, E1.out, by have := H.out.len; rw [List.length_append, List.length_singleton]; omega⟩⟩
                    case measure => simp [intOf]; omega
                  · have t6 : ((s[j + 1].toNat : Int) != 110) = true := by simp; omega
                    have t7 : ((s[j + 1].toNat : Int) == 110) = false := by simp; omega
                    by_cases hesc : s[j + 1].toNat = 92 ∨ s[j + 1].toNat = 34
                    · have E1 : Hid (u = ahead (o ++ [s[j + 1]]) (unq (s.data.toList.drop (j + 1 + 1)))) := by
                        rw [H.out.eq, D0.out, D1.out, unq_esc _ h92 hesc, ahead_ahead]
                        rfl
                      have hes : (((s[j + 1].toNat : Int) != 34) = false) ∨ (((s[j + 1].toNat : Int) != 34) = true ∧ ((s[j + 1].toNat : Int) != 92) = false) := by
                        rcases hesc with h | h
                        · exact .inr ⟨by simp; omega, by simp; omega⟩
                        · exact .inl (by simp; omega)
                      clear h34 h10 h92 h110 hesc
                      rcases hes with t4 | ⟨t4, t5⟩
                      all_goals
                        go_wp2_with (at_builtin; refine wpList_append_own _ rfl (.tmp 64) (.tmp 66) 78 rfl w.heap.size 5 i0 _ 1 1 Tryz.underlying78 hi hz0 hz1 hz2 rfl (by decide) u4 _ _ rfl (H.out.own.below ((Below.refl _ _).alloc (Nat.le_refl _) _)) ⟨wr.heap.size, 0, none⟩ 1 1 [.int .u8 (s[j + 1].toNat : Int)] rfl rfl (cell_one_new _ _ _) (by simp [Value.oneCell']) (by simp only [maxLen]; omega) (by omega) (by have := HSZ.out; simp; omega) ?_; intro v1 w1 hown' hgrow _; have O1 := Lib.hid (OwnB.snoc (m := [s[j + 1]]) hown' rfl rfl); have B1 := Lib.hid (row_below H.out.bel H.out.own ((Below.refl _ _).alloc (Nat.le_refl _) _) hgrow HSZ.out); clear hown' hgrow)
                        go_roundw
                        case rel => exact ⟨j + 1 + 1, _, by omega, by go_num, ⟨O1.out, B1.out, E1.out, by have := H.out.len; rw [List.length_append, List.length_singleton]; omega⟩⟩
                        case measure => simp [intOf]; omega
                    · have t4 : ((s[j + 1].toNat : Int) != 92) = true := by simp; omega
                      have t5 : ((s[j + 1].toNat : Int) != 34) = true := by simp; omega
                      have OK : Hid (VRes u s ⟨#[]⟩ 0) := by
                        refine ⟨fun h => absurd h (Nat.lt_irrefl _), fun _ => ?_, Nat.zero_le _⟩
                        rw [H.out.eq, D0.out, D1.out, unq_bad _ h92 (fun h => hesc (.inl h)) (fun h => hesc (.inr h)) h110]; rfl
                      clear h34 h10 h92 h110 hesc
                      go_wp2
                      go_ret2
                      exact ⟨⟨#[]⟩, 0, rfl, H.out.bel, OK.out⟩
                · have g5 : (((j + 1 : Nat) : Int) == (s.size : Int)) = true := by simp; omega
                  have g5' : (((j : Int) + 1) == (s.size : Int)) = true := by simp; omega
                  have OK : Hid (VRes u s ⟨#[]⟩ 0) := by
                    refine ⟨fun h => absurd h (Nat.lt_irrefl _), fun _ => ?_, Nat.zero_le _⟩
                    rw [H.out.eq, D0.out, List.drop_of_length_le (l := s.data.toList) (i := j + 1) (by rw [Array.length_toList]; show s.size ≤ j + 1; omega), unq_one h92]; rfl
                  clear h34 h10 h92
                  go_wp2
                  go_ret2
                  exact ⟨⟨#[]⟩, 0, rfl, H.out.bel, OK.out⟩
              · have t3 : ((s[j].toNat : Int) == 92) = false := by simp; omega
                have E1 : Hid (u = ahead (o ++ [s[j]]) (unq (s.data.toList.drop (j + 1)))) := by
                  rw [H.out.eq, D0.out, unq_plain _ ⟨by omega, by omega, by omega⟩, ahead_ahead]
                  rfl
                clear h34 h10 h92
                go_wp2_with (at_builtin; refine wpList_append_own _ rfl (.tmp 64) (.tmp 66) 78 rfl w.heap.size 5 i0 _ 1 1 Tryz.underlying78 hi hz0 hz1 hz2 rfl (by decide) u4 _ _ rfl (H.out.own.below ((Below.refl _ _).alloc (Nat.le_refl _) _)) ⟨wr.heap.size, 0, none⟩ 1 1 [.int .u8 (s[j].toNat : Int)] rfl rfl (cell_one_new _ _ _) (by simp [Value.oneCell']) (by simp only [maxLen]; omega) (by omega) (by have := HSZ.out; simp; omega) ?_; intro v1 w1 hown' hgrow _; have O1 := Lib.hid (OwnB.snoc (m := [s[j]]) hown' rfl rfl); have B1 := Lib.hid (row_below H.out.bel H.out.own ((Below.refl _ _).alloc (Nat.le_refl _) _) hgrow HSZ.out); clear hown' hgrow)
                go_roundw
                case rel => exact ⟨j + 1, _, by omega, by go_num, ⟨O1.out, B1.out, E1.out, by have := H.out.len; rw [List.length_append, List.length_singleton]; omega⟩⟩
                case measure => simp [intOf]; omega
        · have OK : Hid (VRes u s ⟨#[]⟩ 0) := by
            refine ⟨fun h => absurd h (Nat.lt_irrefl _), fun _ => ?_, Nat.zero_le _⟩
            rw [H.out.eq, List.drop_of_length_le (by rw [Array.length_toList]; show s.size ≤ j; omega), unq_nil]; rfl
          go_wp2
          go_ret2
          exact ⟨⟨#[]⟩, 0, rfl, H.out.bel, OK.out⟩
    · have t0 : ((s[0].toNat : Int) != 34) = true := by simp; omega
      have OK : Hid (VRes (valU s.data.toList) s ⟨#[]⟩ 0) := by
        refine ⟨fun h => absurd h (Nat.lt_irrefl _), fun _ => ?_, Nat.zero_le _⟩
        rw [D0.out, valU, if_neg h34]
      clear h34 D0 h0
      go_enter Tryz.func108, Tryz.ntmps108
      go_wp2
      go_ret2
      exact ⟨⟨#[]⟩, 0, rfl, BA.out, OK.out⟩
end Go.Proofs.YtdeppcddknakjaaGreatDoor.Mx
namespace Go.Proofs.YtdeppcddknakjaaGreatDoor.Mx
open Go.RowKit
open Go.Proofs.YtdeppcddknakjaaGreatDoor.Rx (EmpP SameP)
open Go.Proofs.YtdeppcddknakjaaGreatDoor.Lab (nameB getL Lb LS StrPost letterB drop_cons)
theorem pfx_app {p q r : List UInt8} (h : (p ++ q).isPrefixOf r = true) : p.isPrefixOf r = true :=
  List.isPrefixOf_iff_prefix.2 ((List.prefix_append p q).trans (List.isPrefixOf_iff_prefix.1 h))
/-- Behind the operator there must be a mark. -/
theorem opN_opR (r : List UInt8) : opN r = if (opR r).1 = 0 then none else match r.drop (opR r).2 with
    | [] => none
    | c :: b => if c.toNat = 34 then some ((opR r).1, b) else none := by
  unfold opR
  split
  · rename_i h
    obtain ⟨t, rfl⟩ := List.isPrefixOf_iff_prefix.1 h
    cases t with
    | nil => rfl
    | cons c t =>
      by_cases hc : c.toNat = 34
      · obtain rfl : c = 34 := UInt8.toNat_inj.1 hc
        rfl
      · have hb : (34 == c) = false := by rw [beq_eq_false_iff_ne]; rintro rfl; exact hc rfl
        show opN (61 :: 126 :: c :: t) = if c.toNat = 34 then some (3, t) else none
        rw [if_neg hc]
        simp [opN, List.isPrefixOf, hb]
  · rename_i h1
    split
    · rename_i h
      obtain ⟨t, rfl⟩ := List.isPrefixOf_iff_prefix.1 h
      cases t with
      | nil => rfl
      | cons c t =>
        by_cases hc : c.toNat = 34
        · obtain rfl : c = 34 := UInt8.toNat_inj.1 hc
          rfl
        · have hb : (34 == c) = false := by rw [beq_eq_false_iff_ne]; rintro rfl; exact hc rfl
          show opN (33 :: 126 :: c :: t) = if c.toNat = 34 then some (4, t) else none
          rw [if_neg hc]
          simp [opN, List.isPrefixOf, hb]
    · rename_i h2
      split
      · rename_i h
        obtain ⟨t, rfl⟩ := List.isPrefixOf_iff_prefix.1 h
        cases t with
        | nil => rfl
        | cons c t =>
          by_cases hc : c.toNat = 34
          · obtain rfl : c = 34 := UInt8.toNat_inj.1 hc
            rfl
          · have hb : (34 == c) = false := by rw [beq_eq_false_iff_ne]; rintro rfl; exact hc rfl
            show opN (33 :: 61 :: c :: t) = if c.toNat = 34 then some (2, t) else none
            rw [if_neg hc]
            simp [opN, List.isPrefixOf, hb]
      · rename_i h3
        have n3 : [61, 126, 34].isPrefixOf r = false := by
          cases h : [61, 126, 34].isPrefixOf r with
          | false => rfl
          | true => exact absurd (pfx_app (p := [61, 126]) (q := [34]) h) h1
        have n4 : [33, 126, 34].isPrefixOf r = false := by
          cases h : [33, 126, 34].isPrefixOf r with
          | false => rfl
          | true => exact absurd (pfx_app (p := [33, 126]) (q := [34]) h) h2
        have n2 : [33, 61, 34].isPrefixOf r = false := by
          cases h : [33, 61, 34].isPrefixOf r with
          | false => rfl
          | true => exact absurd (pfx_app (p := [33, 61]) (q := [34]) h) h3
        by_cases h : [61].isPrefixOf r = true
        · rw [if_pos h]
          obtain ⟨t, rfl⟩ := List.isPrefixOf_iff_prefix.1 h
          unfold opN
          rw [n2, n3, n4]
          cases t with
          | nil => rfl
          | cons c t =>
            by_cases hc : c.toNat = 34
            · obtain rfl : c = 34 := UInt8.toNat_inj.1 hc
              rfl
            · have hb : (34 == c) = false := by rw [beq_eq_false_iff_ne]; rintro rfl; exact hc rfl
              show _ = if c.toNat = 34 then some (1, t) else none
              rw [if_neg hc]
              simp [List.isPrefixOf, hb]
        · rw [if_neg h]
          have n1 : [61, 34].isPrefixOf r = false := by
            cases h5 : [61, 34].isPrefixOf r with
            | false => rfl
            | true => exact absurd (pfx_app (p := [61]) (q := [34]) h5) h
          unfold opN
          rw [n1, n2, n3, n4]
          rfl
theorem opR_len (r : List UInt8) : (opR r).2 ≤ r.length := by
  have key : ∀ p : List UInt8, p.isPrefixOf r = true → p.length ≤ r.length := fun p hp => (List.isPrefixOf_iff_prefix.1 hp).length_le
  unfold opR
  split
  · exact key _ ‹_›
  · split
    · exact key _ ‹_›
    · split
      · exact key _ ‹_›
      · split
        · exact key _ ‹_›
        · exact Nat.zero_le _
theorem opR_k (r : List UInt8) : (opR r).2 ≤ 2 := by
  unfold opR
  split
  · exact Nat.le_refl _
  · split
    · exact Nat.le_refl _
    · split
      · exact Nat.le_refl _
      · split
        · exact Nat.le_succ _
        · exact Nat.zero_le _
theorem oneR_opz {s : List UInt8} (h : (opR (restL s)).1 = 0) : oneR s = none := oneR_op (by rw [opN_opR, if_pos h])
theorem oneR_valz {s : List UInt8} (h : valU ((restL s).drop (opR (restL s)).2) = none) : oneR s = none := by
  by_cases h0 : (opR (restL s)).1 = 0
  · exact oneR_opz h0
  · have e := opN_opR (restL s)
    rw [if_neg h0] at e
    cases hd : (restL s).drop (opR (restL s)).2 with
    | nil => rw [hd] at e; exact oneR_op e
    | cons c b =>
      rw [hd] at e h
      by_cases hc : c.toNat = 34
      · rw [valU, if_pos hc] at h
        exact oneR_val (e.trans (if_pos hc)) h
      · exact oneR_op (e.trans (if_neg hc))
theorem oneR_ok {s v r : List UInt8} (hw : wordL s ≠ []) (h0 : (opR (restL s)).1 ≠ 0) (h : valU ((restL s).drop (opR (restL s)).2) = some (v, r)) : oneR s = some (⟨(opR (restL s)).1, ⟨(wordL s).toArray⟩, ⟨v.toArray⟩⟩, r) := by
  have e := opN_opR (restL s)
  rw [if_neg h0] at e
  cases hd : (restL s).drop (opR (restL s)).2 with
  | nil => rw [hd] at h; cases h
  | cons c b =>
    rw [hd] at e h
    by_cases hc : c.toNat = 34
    · rw [valU, if_pos hc] at h
      exact oneR_yes hw (e.trans (if_pos hc)) h
    · rw [valU, if_neg hc] at h; cases h
theorem word_at (s : List UInt8) (q : Nat) (hq : q ≤ s.length) (h : ∀ c ∈ s.take q, letterB c.toNat = true) (hs : ∀ c r, s.drop q = c :: r → letterB c.toNat = false) : wordL s = s.take q ∧ restL s = s.drop q := by
  have e : s = s.take q ++ s.drop q := (List.take_append_drop q s).symm
  cases hd : s.drop q with
  | nil =>
    rw [hd, List.append_nil] at e
    have h1 := List.takeWhile_append_of_pos (l₂ := []) h
    have h2 := List.dropWhile_append_of_pos (l₂ := []) h
    rw [List.append_nil, ← e] at h1 h2
    unfold wordL restL
    rw [h1, h2]
    simp
    exact e
  | cons c r =>
    rw [hd] at e
    have h1 := take_word (t := r) h (hs c r hd)
    rw [← e] at h1
    exact h1
/-- What reading one matcher yields. -/
structure ORes (u : Option (Mt × List UInt8)) (s : ByteArray) (m : Mt) (n : Nat) : Prop where
  yes : 0 < n → u = some (m, s.data.toList.drop n)
  no : n = 0 → u = none
  le : n ≤ s.size
def OneP (s : ByteArray) (w : World) (e : Ending) (w' : World) : Prop :=
  ∃ (m : Mt) (n : Nat), e = .returned (.tuple #[.agg #[.int .i64 m.k, .string m.n, .string m.v], .int .i64 (n : Int)]) ∧ Hid (Below w.heap.size w w') ∧ ORes (oneR s.data.toList) s m n
theorem one_close {w w2 : World} {fn : Func} {p q : Tmp} {tmps : Array Value} {a b d : Value} {R : Ending → World → Prop} (hr : fn.results = #[.cell p 25, .tmp q]) (k : Int) (n v : ByteArray) {x : Value} (hx : tmps.getD q undef = x) (hp : tmps.getD p undef = .pointer (some ⟨w.heap.size, 0, none⟩))
    (hb : Below (w.alloc (.cells #[a, b, d] 25)).heap.size (w.alloc (.cells #[a, b, d] 25)) w2)
    (hR : ∀ W, Below w.heap.size w W → R (.returned (.tuple #[.agg #[.int .i64 k, .string n, .string v], x])) W) :
    bodyPost Tryz.prog fn R Exit.ret ⟨tmps, []⟩ (((w2.setCell ⟨w.heap.size, 0, none⟩ (.int .i64 k)).setCell ⟨w.heap.size, 1, none⟩ (.string n)).setCell ⟨w.heap.size, 2, none⟩ (.string v)) := by
  have h0 : w2.heap[w.heap.size]? = some (.cells #[a, b, d] 25 (0, 0)) := by
    rw [hb.block _ (by simp)]
    exact heap_alloc_new w (.cells #[a, b, d] 25)
  have h2 : Below w.heap.size w w2 := ((Below.refl _ _).alloc (Nat.le_refl _) _).trans (hb.mono (by simp))
  refine bodyPost_ret (results_cell2 hr _ _ w.heap.size #[.int .i64 k, .string n, .string v] hp (set3 _ _ _ h0) rfl) rfl ?_
  rw [hx]
  exact hR _ (((h2.setCell (show w.heap.size ≤ (⟨w.heap.size, 0, none⟩ : Addr).block from Nat.le_refl _) _).setCell (show w.heap.size ≤ (⟨w.heap.size, 1, none⟩ : Addr).block from Nat.le_refl _) _).setCell (show w.heap.size ≤ (⟨w.heap.size, 2, none⟩ : Addr).block from Nat.le_refl _) _)
set_option maxHeartbeats 8000000 in
theorem oneM_any (s : ByteArray) (hs : s.size ≤ 500000) (w : World) : Calls Tryz.prog 77 #[.string s] w (OneP s w) := by
  have hdl : s.data.toList.length = s.size := Array.length_toList
  obtain ⟨W, hW⟩ : ∃ W, W = w.alloc (.cells #[.int .i64 0, .string ⟨#[]⟩, .string ⟨#[]⟩] 25) := ⟨_, rfl⟩
  have HW := Lib.hid hW
  go_enter Tryz.func77, Tryz.ntmps77
  go_wp2
  rw [← HW.out]
  go_loop [4] (fun vi => ∃ q : Nat, q ≤ s.size ∧ vi = .int .i64 (q : Int) ∧ Hid (∀ c ∈ s.data.toList.take q, letterB c.toNat = true)) (fun vi => s.size - (intOf vi).toNat)
  case atStart => exact ⟨0, by omega, rfl, by intro c hc; simp at hc⟩
  case round =>
    obtain ⟨q, hq, rfl, HL⟩ := hrel
    by_cases hin : ∃ hlt : q < s.size, letterB s[q].toNat = true
    · obtain ⟨hlt, hin⟩ := hin
      have C := Lib.hid (letterM_any s[q].toNat W)
      rw [hin] at C
      have HL2 : Hid (∀ c ∈ s.data.toList.take (q + 1), letterB c.toNat = true) := fun c hc => by
        rw [Lab.take_snoc s hlt] at hc
        rcases List.mem_append.1 hc with h | h
        · exact HL.out c h
        · simp only [List.mem_singleton] at h
          rw [h]
          exact hin
      clear hin HL hW
      go_wp2_with (go_at_call 106; (with_reducible refine C.out.mono ?_); rintro e w' ⟨rfl, rfl⟩)
      go_round
      case rel => exact ⟨q + 1, by omega, by go_num, HL2⟩
      case measure => simp [intOf]; omega
    · obtain ⟨hwd, hre⟩ := word_at s.data.toList q (by omega) HL.out (fun c r e => by
        rcases Nat.lt_or_ge q s.size with h | h
        · rw [drop_cons s h] at e
          injection e with e1 _
          rw [← e1, ← Bool.not_eq_true]
          exact fun e => hin ⟨h, e⟩
        · rw [List.drop_of_length_le (by omega)] at e; cases e)
      have HC : Hid (∀ h : q < s.size, Calls Tryz.prog 106 #[.int .u8 (s[q].toNat : Int)] W fun e w' => e = .returned (.bool false) ∧ W = w') := fun h => by
        have h1 := letterM_any s[q].toNat W
        rw [show letterB s[q].toNat = false by rw [← Bool.not_eq_true]; exact fun e => hin ⟨h, e⟩] at h1
        exact h1
      clear hin HL
      obtain ⟨R, hR⟩ : ∃ R : ByteArray, R = s.extract q s.size := ⟨_, rfl⟩
      have hRd : R.data.toList = s.data.toList.drop q := by rw [hR]; exact ext_drop _ _
      have hRs : R.size = s.size - q := by rw [hR, ByteArray.size_extract]; omega
      have KO := Lib.hid (operatorM_any R (by omega) W)
      rw [hRd] at KO
      have hol := opR_len (s.data.toList.drop q)
      have hok := opR_k (s.data.toList.drop q)
      rw [List.length_drop, hdl] at hol
      obtain ⟨kd, kk, hop⟩ : ∃ kd kk, opR (s.data.toList.drop q) = (kd, kk) := ⟨_, _, rfl⟩
      rw [hop] at KO hol hok
      dsimp only at hol hok
      obtain ⟨V, hV⟩ : ∃ V : ByteArray, V = s.extract (q + kk) s.size := ⟨_, rfl⟩
      have hVd : V.data.toList = s.data.toList.drop (q + kk) := by rw [hV]; exact ext_drop _ _
      have hVs : V.size = s.size - (q + kk) := by rw [hV, ByteArray.size_extract]; omega
      have KV := Lib.hid (valueM_any V (by omega) W)
      have hval : valU ((restL s.data.toList).drop (opR (restL s.data.toList)).2) = valU V.data.toList := by rw [hre, hop, hVd, List.drop_drop]
      have HLT : Hid (kd ≠ 0 → q < s.size) := fun h => by
        rcases Nat.lt_or_ge q s.size with h1 | h1
        · exact h1
        · rw [List.drop_of_length_le (by omega)] at hop
          exact absurd (congrArg Prod.fst hop).symm h
      have HZ : Hid (kd = 0 → oneR s.data.toList = none) := fun h => oneR_opz (by rw [hre, hop]; exact h)
      have HQ : Hid (q = 0 → oneR s.data.toList = none) := fun h => oneR_word (by rw [hwd, h]; rfl)
      have HV : Hid (valU V.data.toList = none → oneR s.data.toList = none) := fun h => oneR_valz (by rw [hval]; exact h)
      have HY : Hid (q ≠ 0 → kd ≠ 0 → ∀ t n, valU V.data.toList = some (t, V.data.toList.drop n) → n ≤ V.size → oneR s.data.toList = some (⟨kd, s.extract 0 q, ⟨t.toArray⟩⟩, s.data.toList.drop (q + kk + n))) := fun h1 h2 t n h3 hn => by
        have h4 := oneR_ok (s := s.data.toList) (v := t) (r := V.data.toList.drop n) (by
          rw [hwd]
          intro e
          have := congrArg List.length e
          rw [List.length_take, hdl, List.length_nil] at this
          omega) (by rw [hre, hop]; exact h2) (by rw [hval]; exact h3)
        rw [h4, hre, hop, hwd, hVd, List.drop_drop, ← ext_pre]
      have sl1 : IntKind.i64.wrap ((q : Int) + (kk : Int)) = (q : Int) + (kk : Int) := IntWalk.i64_in _ (by omega)
      have hsq : (s.extract 0 q).size ≤ 1000000 := by rw [ByteArray.size_extract]; omega
      have BW : Hid (Below (w.alloc (.cells #[.int .i64 0, .string ⟨#[]⟩, .string ⟨#[]⟩] 25)).heap.size (w.alloc (.cells #[.int .i64 0, .string ⟨#[]⟩, .string ⟨#[]⟩] 25)) W) := by rw [hW]; exact Below.refl _ _
      have hbk : ∀ W', Below W.heap.size W W' → W'.heap[w.heap.size]? = some (.cells #[.int .i64 0, .string ⟨#[]⟩, .string ⟨#[]⟩] 25 (0, 0)) := fun W' hb => by
        rw [hb.block _ (by rw [hW]; simp), hW]
        exact heap_alloc_new w _
      have HBK := Lib.hid hbk
      clear hbk hop hre hwd hval hVd hRd hW HW
      have HR := Lib.hid hR
      have HVx := Lib.hid hV
      clear hR hV
      by_cases hq0 : q = 0
      · have eq : ((q : Int) == 0) = true := by simp [hq0]
        have OK : Hid (ORes (oneR s.data.toList) s ⟨0, ⟨#[]⟩, ⟨#[]⟩⟩ 0) := ⟨fun h => absurd h (Nat.lt_irrefl _), fun _ => HQ.out hq0, Nat.zero_le _⟩
        clear HQ HZ HV HY hq0
        by_cases hlt : q < s.size
        · have C := Lib.hid (HC.out hlt)
          clear HC
          go_wp2_with (go_at_call 106; (with_reducible refine C.out.mono ?_); rintro e w' ⟨rfl, rfl⟩)
          rw [← HR.out]
          refine KO.out.mono ?_
          rintro e wo ⟨rfl, rfl⟩
          go_wp2_with fail
          rw [← HVx.out]
          refine KV.out.mono ?_
          rintro e w2 ⟨t, n, rfl, b2, hv⟩
          obtain ⟨c0, c1, c2⟩ := cell3 (HBK.out w2 b2)
          have f0 : w2.frozen? ⟨w.heap.size, 0, none⟩ = false := by simp [World.frozen?, HBK.out w2 b2]
          have f1 : w2.frozen? ⟨w.heap.size, 1, none⟩ = false := by simp [World.frozen?, HBK.out w2 b2]
          have f2 : w2.frozen? ⟨w.heap.size, 2, none⟩ = false := by simp [World.frozen?, HBK.out w2 b2]
          have B2 : Hid (Below (w.alloc (.cells #[.int .i64 0, .string ⟨#[]⟩, .string ⟨#[]⟩] 25)).heap.size (w.alloc (.cells #[.int .i64 0, .string ⟨#[]⟩, .string ⟨#[]⟩] 25)) w2) := BW.out.trans (b2.mono BW.out.size)
          clear b2 hv HBK BW
          go_wp2
          exact one_close (x := .int .i64 0) rfl _ _ _ rfl rfl B2.out (fun W2 hb => ⟨⟨0, ⟨#[]⟩, ⟨#[]⟩⟩, 0, rfl, hb, OK.out⟩)
        · clear HC
          go_wp2_with fail
          rw [← HR.out]
          refine KO.out.mono ?_
          rintro e wo ⟨rfl, rfl⟩
          go_wp2_with fail
          rw [← HVx.out]
          refine KV.out.mono ?_
          rintro e w2 ⟨t, n, rfl, b2, hv⟩
          obtain ⟨c0, c1, c2⟩ := cell3 (HBK.out w2 b2)
          have f0 : w2.frozen? ⟨w.heap.size, 0, none⟩ = false := by simp [World.frozen?, HBK.out w2 b2]
          have f1 : w2.frozen? ⟨w.heap.size, 1, none⟩ = false := by simp [World.frozen?, HBK.out w2 b2]
          have f2 : w2.frozen? ⟨w.heap.size, 2, none⟩ = false := by simp [World.frozen?, HBK.out w2 b2]
          have B2 : Hid (Below (w.alloc (.cells #[.int .i64 0, .string ⟨#[]⟩, .string ⟨#[]⟩] 25)).heap.size (w.alloc (.cells #[.int .i64 0, .string ⟨#[]⟩, .string ⟨#[]⟩] 25)) w2) := BW.out.trans (b2.mono BW.out.size)
          clear b2 hv HBK BW
          go_wp2
          exact one_close (x := .int .i64 0) rfl _ _ _ rfl rfl B2.out (fun W2 hb => ⟨⟨0, ⟨#[]⟩, ⟨#[]⟩⟩, 0, rfl, hb, OK.out⟩)
      · have eq : ((q : Int) == 0) = false := by simp; omega
        by_cases hk0 : kd = 0
        · have ek := bneT hk0
          have OK : Hid (ORes (oneR s.data.toList) s ⟨0, ⟨#[]⟩, ⟨#[]⟩⟩ 0) := ⟨fun h => absurd h (Nat.lt_irrefl _), fun _ => HZ.out hk0, Nat.zero_le _⟩
          clear HQ HZ HV HY
          by_cases hlt : q < s.size
          · have C := Lib.hid (HC.out hlt)
            clear HC
            go_wp2_with (go_at_call 106; (with_reducible refine C.out.mono ?_); rintro e w' ⟨rfl, rfl⟩)
            rw [← HR.out]
            refine KO.out.mono ?_
            rintro e wo ⟨rfl, rfl⟩
            go_wp2_with fail
            rw [← HVx.out]
            refine KV.out.mono ?_
            rintro e w2 ⟨t, n, rfl, b2, hv⟩
            obtain ⟨c0, c1, c2⟩ := cell3 (HBK.out w2 b2)
            have f0 : w2.frozen? ⟨w.heap.size, 0, none⟩ = false := by simp [World.frozen?, HBK.out w2 b2]
            have f1 : w2.frozen? ⟨w.heap.size, 1, none⟩ = false := by simp [World.frozen?, HBK.out w2 b2]
            have f2 : w2.frozen? ⟨w.heap.size, 2, none⟩ = false := by simp [World.frozen?, HBK.out w2 b2]
            have B2 : Hid (Below (w.alloc (.cells #[.int .i64 0, .string ⟨#[]⟩, .string ⟨#[]⟩] 25)).heap.size (w.alloc (.cells #[.int .i64 0, .string ⟨#[]⟩, .string ⟨#[]⟩] 25)) w2) := BW.out.trans (b2.mono BW.out.size)
            clear b2 hv HBK BW
            go_wp2
            exact one_close (x := .int .i64 0) rfl _ _ _ rfl rfl B2.out (fun W2 hb => ⟨⟨0, ⟨#[]⟩, ⟨#[]⟩⟩, 0, rfl, hb, OK.out⟩)
          · clear HC
            go_wp2_with fail
            rw [← HR.out]
            refine KO.out.mono ?_
            rintro e wo ⟨rfl, rfl⟩
            go_wp2_with fail
            rw [← HVx.out]
            refine KV.out.mono ?_
            rintro e w2 ⟨t, n, rfl, b2, hv⟩
            obtain ⟨c0, c1, c2⟩ := cell3 (HBK.out w2 b2)
            have f0 : w2.frozen? ⟨w.heap.size, 0, none⟩ = false := by simp [World.frozen?, HBK.out w2 b2]
            have f1 : w2.frozen? ⟨w.heap.size, 1, none⟩ = false := by simp [World.frozen?, HBK.out w2 b2]
            have f2 : w2.frozen? ⟨w.heap.size, 2, none⟩ = false := by simp [World.frozen?, HBK.out w2 b2]
            have B2 : Hid (Below (w.alloc (.cells #[.int .i64 0, .string ⟨#[]⟩, .string ⟨#[]⟩] 25)).heap.size (w.alloc (.cells #[.int .i64 0, .string ⟨#[]⟩, .string ⟨#[]⟩] 25)) w2) := BW.out.trans (b2.mono BW.out.size)
            clear b2 hv HBK BW
            go_wp2
            exact one_close (x := .int .i64 0) rfl _ _ _ rfl rfl B2.out (fun W2 hb => ⟨⟨0, ⟨#[]⟩, ⟨#[]⟩⟩, 0, rfl, hb, OK.out⟩)
        · have ek := bneF hk0
          have HY2 := Lib.hid (HY.out hq0 hk0)
          clear HQ HZ HY
          have hlt := HLT.out hk0
          have C := Lib.hid (HC.out hlt)
          clear HC
          go_wp2_with (go_at_call 106; (with_reducible refine C.out.mono ?_); rintro e w' ⟨rfl, rfl⟩)
          rw [← HR.out]
          refine KO.out.mono ?_
          rintro e wo ⟨rfl, rfl⟩
          go_wp2_with fail
          rw [← HVx.out]
          refine KV.out.mono ?_
          rintro e w2 ⟨t, n, rfl, b2, hv⟩
          obtain ⟨c0, c1, c2⟩ := cell3 (HBK.out w2 b2)
          have f0 : w2.frozen? ⟨w.heap.size, 0, none⟩ = false := by simp [World.frozen?, HBK.out w2 b2]
          have f1 : w2.frozen? ⟨w.heap.size, 1, none⟩ = false := by simp [World.frozen?, HBK.out w2 b2]
          have f2 : w2.frozen? ⟨w.heap.size, 2, none⟩ = false := by simp [World.frozen?, HBK.out w2 b2]
          have B2 : Hid (Below (w.alloc (.cells #[.int .i64 0, .string ⟨#[]⟩, .string ⟨#[]⟩] 25)).heap.size (w.alloc (.cells #[.int .i64 0, .string ⟨#[]⟩, .string ⟨#[]⟩] 25)) w2) := BW.out.trans (b2.mono BW.out.size)
          have hvl := hv.le
          by_cases hn : n = 0
          · have en : ((n : Int) == 0) = true := by simp [hn]
            have OK : Hid (ORes (oneR s.data.toList) s ⟨0, ⟨#[]⟩, ⟨#[]⟩⟩ 0) := ⟨fun h => absurd h (Nat.lt_irrefl _), fun _ => HV.out (hv.no hn), Nat.zero_le _⟩
            clear b2 hv HBK BW HV HY2
            go_wp2
            exact one_close (x := .int .i64 0) rfl _ _ _ rfl rfl B2.out (fun W2 hb => ⟨⟨0, ⟨#[]⟩, ⟨#[]⟩⟩, 0, rfl, hb, OK.out⟩)
          · have en : ((n : Int) == 0) = false := by simp; omega
            have OK : Hid (ORes (oneR s.data.toList) s ⟨kd, s.extract 0 q, t⟩ (q + kk + n)) := ⟨fun _ => (HY2.out _ n (hv.yes (by omega)) hvl).trans (by rw [Lib.mk_data]), fun h => by omega, by omega⟩
            have sl2 : IntKind.i64.wrap ((q : Int) + (kk : Int) + (n : Int)) = (q : Int) + (kk : Int) + (n : Int) := IntWalk.i64_in _ (by omega)
            clear b2 hv HBK BW HV HY2
            go_wp2
            exact one_close (x := .int .i64 ((q : Int) + (kk : Int) + (n : Int))) rfl _ _ _ rfl rfl B2.out (fun W2 hb => ⟨⟨kd, s.extract 0 q, t⟩, q + kk + n, by push_cast; rfl, hb, OK.out⟩)
end Go.Proofs.YtdeppcddknakjaaGreatDoor.Mx
namespace Go.Proofs.YtdeppcddknakjaaGreatDoor.Mx
open Go.RowKit
open Go.Proofs.YtdeppcddknakjaaGreatDoor.Rx (EmpP SameP ChkP)
open Go.Proofs.YtdeppcddknakjaaGreatDoor.Lab (nameB getL Lb LS StrPost letterB drop_cons)
/-- What is to come at a matcher's beginning. -/
def RestM (u : Option (List Mt)) (m : List Mt) (l : List UInt8) : Prop := ∃ f, l.length + 1 ≤ f ∧ u = (lsR f l).map (fun q => m ++ q)
theorem RestM.none_ {u : Option (List Mt)} {m : List Mt} {l : List UInt8} (h : RestM u m l) (hl : oneR l = none) : u = none := by
  obtain ⟨f, hf, h⟩ := h
  match f, hf with
  | f + 1, _ => rw [h, lsR_none hl]; rfl
/-- What is to come behind a matcher. -/
structure AftM (u : Option (List Mt)) (m : List Mt) (r : List UInt8) : Prop where
  go : ∀ q, r = 44 :: q → RestM u m q
  last : r = [125] → u = some m
  other : (∀ q, r ≠ 44 :: q) → r ≠ [125] → u = none
theorem RestM.aft {u : Option (List Mt)} {m : List Mt} {l r : List UInt8} {x : Mt} (h : RestM u m l) (hl : oneR l = some (x, r)) : AftM u (m ++ [x]) r := by
  obtain ⟨f, hf, h⟩ := h
  have hlen := oneR_len hl
  match f, hf with
  | f + 1, hf =>
    refine ⟨fun q hq => ?_, fun hq => ?_, fun h1 h2 => ?_⟩
    · subst hq
      rw [lsR_comma hl] at h
      refine ⟨f, by rw [List.length_cons] at hlen; omega, ?_⟩
      rw [h, Option.map_map]
      congr 1
      funext y
      simp
    · subst hq
      rw [h, lsR_last hl]
      rfl
    · cases r with
      | nil => rw [h, lsR_end hl]; rfl
      | cons c q => rw [h, lsR_bad hl (fun e => h1 q (by rw [e])) (fun e => h2 (by rw [e.1, e.2]))]; rfl
/-- At the head of a round. -/
structure LSt (u : Option (List Mt)) (s : ByteArray) (w : World) (r : ByteArray) (sg : Nat) (m : List Mt) (vo : Value) (V : World) : Prop where
  own : OwnT V w.heap.size vo m
  bel : Below w.heap.size w V
  len : m.length + r.size ≤ s.size
  go : ∀ c q, r.data.toList = c :: q → c.toNat = sg → RestM u m q
  yes : r.data.toList = [125] → 0 < m.length → u = some m
  no : (∀ c q, r.data.toList = c :: q → c.toNat ≠ sg) → ¬ (r.data.toList = [125] ∧ 0 < m.length) → u = none
def RLP (u : Option (List Mt)) (w : World) (e : Ending) (w' : World) : Prop :=
  ∃ v m b, e = .returned (.tuple #[v, .bool b]) ∧ Hid (OwnT w' w.heap.size v m) ∧ Hid (Below w.heap.size w w') ∧ (b = true → u = some m) ∧ (b = false → u = none)
theorem LSt.next {u : Option (List Mt)} {s : ByteArray} {w : World} {r r2 : ByteArray} {sg : Nat} {m : List Mt} {vo v5 : Value} {V V5 : World} {c : UInt8} {q : List UInt8} {x : Mt} {n : Nat}
    (h : LSt u s w r sg m vo V) (hr : r.data.toList = c :: q) (hc : c.toNat = sg) (hx : oneR q = some (x, q.drop n)) (hn : 0 < n) (h2 : r2.data.toList = q.drop n) (ho : OwnT V5 w.heap.size v5 (m ++ [x])) (hb : Below w.heap.size w V5) : LSt u s w r2 44 (m ++ [x]) v5 V5 := by
  have ha := (h.go c q hr hc).aft hx
  rw [← h2] at ha
  refine ⟨ho, hb, ?_, fun d p hd he => ?_, fun hl _ => ha.last hl, fun h3 h4 => ?_⟩
  · have h5 := h.len
    have h6 : r.data.toList.length = r.size := Array.length_toList
    have h7 : r2.data.toList.length = r2.size := Array.length_toList
    rw [hr, List.length_cons] at h6
    rw [h2, List.length_drop] at h7
    rw [List.length_append, List.length_singleton]
    omega
  · exact ha.go p (by rw [hd, show d = 44 from UInt8.toNat_inj.1 he])
  · refine ha.other (fun p hp => h3 44 p hp rfl) (fun hl => h4 ⟨hl, ?_⟩)
    rw [List.length_append, List.length_singleton]
    omega
theorem one_str {r : ByteArray} (a : UInt8) : (r.toList == [a]) = decide (r.data.toList = [a]) := by
  rw [ByteArray.toList_eq, Bool.eq_iff_iff]
  simp
theorem two_str {r : ByteArray} (a b : UInt8) : (r.toList == [a, b]) = decide (r.data.toList = [a, b]) := by
  rw [ByteArray.toList_eq, Bool.eq_iff_iff]
  simp
set_option maxHeartbeats 8000000 in
theorem listM_any (s : ByteArray) (hs : s.size ≤ 100000) (w : World) : Calls Tryz.prog 45 #[.string s] w (RLP (txtR s.data.toList) w) := by
  obtain ⟨i0, hi, hz0, hz1, hz2⟩ := info_parts row25
  have KM := Lib.hid (fun (t : ByteArray) (h : t.size ≤ 500000) w1 => oneM_any t h w1)
  obtain ⟨u, hu⟩ : ∃ u, u = txtR s.data.toList := ⟨_, rfl⟩
  rw [← hu]
  have O0 : Hid (OwnT (w.alloc (.cells #[] 25)) w.heap.size (.slice (some ⟨w.heap.size, 0, none⟩) 0 0) []) := World.ownsRow_made w #[] 0 (Nat.le_refl _) (by unfold maxLen; omega) (by simp)
  have B0 : Hid (Below w.heap.size w (w.alloc (.cells #[] 25))) := (Below.refl _ _).alloc (Nat.le_refl _) _
  by_cases hbr : s.data.toList = [123, 125]
  · have e0 : (s.toList == [123, 125]) = true := by rw [two_str]; exact decide_eq_true hbr
    have OK : Hid (u = some []) := by
      show _ = _
      rw [hu, hbr]; rfl
    clear hbr hu
    go_enter Tryz.func45, Tryz.ntmps45
    go_wp2
    go_ret2
    exact ⟨_, [], true, rfl, O0, B0, fun _ => OK.out, fun h => (by cases h)⟩
  · have e0 : (s.toList == [123, 125]) = false := by rw [two_str]; exact decide_eq_false hbr
    have L0 : Hid (LSt u s w s 123 [] (.slice (some ⟨w.heap.size, 0, none⟩) 0 0) (w.alloc (.cells #[] 25))) := by
      refine ⟨O0.out, B0.out, by simp, fun c q h hc => ?_, fun _ h => absurd h (Nat.lt_irrefl _), fun h _ => ?_⟩
      · refine ⟨q.length + 1, Nat.le_refl _, ?_⟩
        have hc' : c = 123 := UInt8.toNat_inj.1 hc
        have hne : q ≠ [125] := fun e => hbr (by rw [h, hc', e])
        rw [hu, h, txtR, if_pos hc, if_neg hne]
        cases lsR (q.length + 1) q <;> simp
      · rw [hu]
        cases hd : s.data.toList with
        | nil => rfl
        | cons c q => rw [txtR, if_neg (h c q hd)]
    clear hbr hu O0 B0
    go_enter Tryz.func45, Tryz.ntmps45
    go_wp2
    go_loopw [0, 4, 5] (fun vs vo vg wr => ∃ (r : ByteArray) (sg : Nat) (m : List Mt), vs = .string r ∧ vg = .int .u8 (sg : Int) ∧ r.size ≤ s.size ∧ sg < 256 ∧ Hid (LSt u s w r sg m vo wr)) (fun vs _ _ _ => strN vs)
    case atStart => exact ⟨s, 123, [], rfl, rfl, Nat.le_refl _, by omega, L0⟩
    case round =>
      clear L0 e0
      obtain ⟨r, sg, m, rfl, rfl, hrs, hsg, H⟩ := hrel
      by_cases hgo : ∃ hlt : 0 < r.size, r[0].toNat = sg
      · obtain ⟨hlt, hc⟩ := hgo
        have D0 := rdA_cons hlt
        have hg1 : ((r[0].toNat : Int) == (sg : Int)) = true := by simp [hc]
        have hUs : (r.extract 1 r.size).size ≤ 500000 := by rw [ByteArray.size_extract]; omega
        have hUl : (r.extract 1 r.size).size + 1 = r.size := by rw [ByteArray.size_extract]; omega
        have KU := Lib.hid (KM.out _ hUs wr)
        have HG := Lib.hid (H.out.go _ _ D0 hc)
        have HN : Hid (∀ (x : Mt) (n : Nat) (r2 : ByteArray) v5 V5, oneR (r.extract 1 r.size).data.toList = some (x, (r.extract 1 r.size).data.toList.drop n) → 0 < n → r2.data.toList = (r.extract 1 r.size).data.toList.drop n → OwnT V5 w.heap.size v5 (m ++ [x]) → Below w.heap.size w V5 → LSt u s w r2 44 (m ++ [x]) v5 V5) := fun x n r2 v5 V5 h1 h2 h3 h4 h5 => H.out.next D0 hc h1 h2 h3 h4 h5
        have hml : m.length ≤ 100000 := by have := H.out.len; omega
        have HW := Lib.hid H.out.own
        have HB := Lib.hid H.out.bel
        clear D0 hc H KM
        go_wp2_with fail
        refine KU.out.mono ?_
        rintro e w1 ⟨x, n, rfl, b1, ho⟩
        have hnle := ho.le
        by_cases hn : n = 0
        · have en : ((n : Int) == 0) = true := by simp [hn]
          have OK : Hid (u = none) := HG.out.none_ (ho.no hn)
          have B2 : Hid (Below w.heap.size w (w1.alloc (.cells #[.int .i64 x.k, .string x.n, .string x.v] 25))) := (HB.out.trans (b1.out.mono HB.out.size)).alloc (Nat.le_trans HB.out.size b1.out.size) _
          have O2 : Hid (OwnT (w1.alloc (.cells #[.int .i64 x.k, .string x.n, .string x.v] 25)) w.heap.size u4 m) := HW.out.below (b1.out.alloc b1.out.size _)
          clear ho HG HN hn
          go_wp2
          go_ret2
          exact ⟨_, m, false, rfl, O2, B2, fun h => (by cases h), fun _ => OK.out⟩
        · have en : ((n : Int) == 0) = false := by simp; omega
          have HE := Lib.hid (ho.yes (by omega))
          clear ho HG
          obtain ⟨R2, hR2⟩ : ∃ R2 : ByteArray, R2 = r.extract (1 + n) r.size := ⟨_, rfl⟩
          have HR2 : Hid (R2.data.toList = (r.extract 1 r.size).data.toList.drop n) := by
            show _ = _
            rw [hR2, ext_drop, ext_drop, List.drop_drop]
          have hR2s : R2.size + 1 + n = r.size := by rw [hR2, ByteArray.size_extract]; omega
          have HR3 := Lib.hid hR2
          clear hR2
          have hw1 : IntKind.i64.wrap (1 + (n : Int)) = 1 + (n : Int) := IntWalk.i64_in _ (by omega)
          have hn0 : (0 : Int) ≤ 1 + (n : Int) := by omega
          have hn1 : (1 : Int) + (n : Int) ≤ (r.size : Int) := by omega
          have hn2 : ((1 : Int) + (n : Int)).toNat = 1 + n := by omega
          obtain ⟨V, hV⟩ : ∃ V, V = w1.alloc (.cells #[.int .i64 x.k, .string x.n, .string x.v] 25) := ⟨_, rfl⟩
          have W1 : Hid (Below wr.heap.size wr V) := by rw [hV]; exact b1.out.alloc b1.out.size _
          have hbk : V.heap[w1.heap.size]? = some (.cells #[.int .i64 x.k, .string x.n, .string x.v] 25 (0, 0)) := by rw [hV]; exact heap_alloc_new w1 _
          obtain ⟨c0, c1, c2⟩ := cell3 hbk
          have hlt2 : w1.heap.size < V.heap.size := by rw [hV]; simp
          have hbase : w.heap.size ≤ V.heap.size := Nat.le_trans HB.out.size W1.out.size
          have W2 : Hid (Below wr.heap.size wr (V.alloc (.cells #[.int .i64 x.k, .string x.n, .string x.v] 25)).drew) := (W1.out.alloc W1.out.size _).drew
          have HV := Lib.hid hV
          clear hV hbk b1
          go_wp2_with fail
          rw [← HV.out]
          go_region_law ((refine step_append_lies _ (by rfl) (.tmp 30) (.tmp 32) 22 (by rfl) w.heap.size 25 i0 _ 3 40 Tryz.underlying22 hi hz0 hz1 hz2 rfl (by omega) u4 m.length (cel m) (by rfl) (HW.out.below W2.out) ⟨V.heap.size, 0, none⟩ 1 1 [.int .i64 x.k, .string x.n, .string x.v] (by rfl) (by rfl) (three_new V.drew _ _ _ _ _ rfl) (by simp [Value.oneCell']) (by omega) (by simp only [maxLen]; omega) (by omega) (by simp; omega) (V.heap.size + 1) (by simp) ?_; intro gg cap w5 hown hgrow hat hlt5))
          all_goals
            have B5 : Hid (Below w.heap.size w w5) := (HB.out.trans (W2.out.mono HB.out.size)).grown hgrow (by simp; omega) (fun g e => (World.ownsRow.lt HW.out g e).1)
            have L5 := Lib.hid (HN.out x n R2 _ _ HE.out (by omega) HR2.out (OwnT.snoc hown) B5.out)
            clear hgrow hown hat W1 W2 HW HB HN HE HR2
            go_simp
            go_wp2_with fail
            go_roundw
            case rel => exact ⟨R2, 44, m ++ [x], by rw [HR3.out], rfl, by omega, by omega, L5⟩
            case measure =>
              have hh := HR3.out
              show (r.extract (1 + n) r.size).size < r.size
              rw [← hh]
              omega
      · have HW := Lib.hid H.out.own
        have HB := Lib.hid H.out.bel
        have hno : ∀ c q, r.data.toList = c :: q → c.toNat ≠ sg := fun c q h e => by
          have hl : 0 < r.size := by
            have h6 : r.data.toList.length = r.size := Array.length_toList
            rw [h, List.length_cons] at h6
            omega
          have D := rdA_cons hl
          rw [h] at D
          injection D with D1 D2
          exact hgo ⟨hl, by rw [← D1]; exact e⟩
        have HX := Lib.hid (H.out.no hno)
        have HYS := Lib.hid H.out.yes
        have hs1 := one_str (r := r) 125
        obtain ⟨Am, cm, rfl, _⟩ := HW.out.form
        clear H hno
        by_cases hlt : 0 < r.size
        · have hg1 : ((r[0].toNat : Int) == (sg : Int)) = false := by
            rw [beq_eq_false_iff_ne]
            intro e
            exact hgo ⟨hlt, by omega⟩
          by_cases hl : r.data.toList = [125]
          · rw [decide_eq_true hl] at hs1
            by_cases hm : 0 < m.length
            · have OK : Hid (u = some m) := HYS.out hl hm
              clear HX HYS hgo hl
              go_wp2
              go_ret2
              exact ⟨_, m, true, rfl, HW, HB, fun _ => OK.out, fun h => (by cases h)⟩
            · have OK : Hid (u = none) := HX.out (fun h => hm h.2)
              clear HX HYS hgo hl
              go_wp2
              go_ret2
              exact ⟨_, m, false, rfl, HW, HB, fun h => (by cases h), fun _ => OK.out⟩
          · rw [decide_eq_false hl] at hs1
            have OK : Hid (u = none) := HX.out (fun h => hl h.1)
            clear HX HYS hgo hl
            go_wp2
            go_ret2
            exact ⟨_, m, false, rfl, HW, HB, fun h => (by cases h), fun _ => OK.out⟩
        · have hl : ¬ r.data.toList = [125] := fun h => by
            have h6 : r.data.toList.length = r.size := Array.length_toList
            rw [h, List.length_singleton] at h6
            omega
          rw [decide_eq_false hl] at hs1
          have OK : Hid (u = none) := HX.out (fun h => hl h.1)
          clear HX HYS hgo hl
          go_wp2
          go_ret2
          exact ⟨_, m, false, rfl, HW, HB, fun h => (by cases h), fun _ => OK.out⟩
set_option maxHeartbeats 4000000 in
theorem refParse_any (s : ByteArray) (hs : s.size ≤ 100000) (w : World) : Calls Tryz.prog 22 #[.string s] w (ParP (parO s.data.toList) w) := by
  have KL := Lib.hid (listM_any s hs w)
  obtain ⟨hz1, hz2⟩ := rdA_size s.data.toList
  have hlen : s.data.toList.length = s.size := Array.length_toList
  rw [hlen] at hz1 hz2
  have hsz : Sz' (rdA s.data.toList) := ⟨by unfold maxLen; omega, fun m hm => ⟨by have := (hz2 m hm).1; unfold maxLen; omega, by have := (hz2 m hm).2; unfold maxLen; omega⟩⟩
  have he := txtR_eq s.data.toList
  obtain ⟨r, hr⟩ : ∃ r, r = parO s.data.toList := ⟨_, rfl⟩
  rw [← hr]
  unfold parO at hr
  have KC := Lib.hid (fun A c w1 (hm : MS w1 w1.heap.size A (rdA s.data.toList)) => refCheck_any (rdA s.data.toList) hsz A c w1 hm)
  generalize rdA s.data.toList = l at *
  by_cases ht : txtM l = s.data.toList
  · rw [if_pos ht] at hr he
    rw [he] at KL
    by_cases hc : chkA l = 0
    · rw [if_pos hc] at hr
      rw [hc] at KC
      subst hr
      clear ht hc he hsz hz1 hz2
      go_enter Tryz.func22, Tryz.ntmps22
      go_wp2_with fail
      refine KL.out.mono ?_
      rintro e w1 ⟨v, m, b, rfl, o1, b1, hy, hn⟩
      cases b with
      | false => exact absurd (hn rfl) (by simp)
      | true =>
        obtain rfl : l = m := Option.some.inj (hy rfl)
        clear hy hn
        obtain ⟨A1, c1, rfl, m1⟩ := o1.out.form
        have K2 := Lib.hid (KC.out A1 c1 w1 m1)
        clear m1 KC KL
        go_wp2_with fail
        refine K2.out.mono ?_
        rintro e w2 ⟨rfl, b2⟩
        have O2 : Hid (OwnT w2 w.heap.size (.slice A1 l.length c1) l) := o1.out.below b2.out
        have B2 : Hid (Below w.heap.size w w2) := b1.out.trans (b2.out.mono b1.out.size)
        clear b2 o1 b1 K2
        go_wp2
        go_ret2
        exact ⟨_, rfl, O2, B2⟩
    · rw [if_neg hc] at hr
      have e0 := bneF hc
      have e0' : (chkA l != 0) = true := by rw [bne, e0]; rfl
      subst hr
      clear ht hc he hsz hz1 hz2
      go_enter Tryz.func22, Tryz.ntmps22
      go_wp2_with fail
      refine KL.out.mono ?_
      rintro e w1 ⟨v, m, b, rfl, o1, b1, hy, hn⟩
      cases b with
      | false => exact absurd (hn rfl) (by simp)
      | true =>
        obtain rfl : l = m := Option.some.inj (hy rfl)
        clear hy hn
        obtain ⟨A1, c1, rfl, m1⟩ := o1.out.form
        have K2 := Lib.hid (KC.out A1 c1 w1 m1)
        generalize chkA l = q at *
        clear m1 KC KL
        go_wp2_with fail
        refine K2.out.mono ?_
        rintro e w2 ⟨rfl, b2⟩
        have B2 : Hid (Below w.heap.size w w2) := b1.out.trans (b2.out.mono b1.out.size)
        have O3 : Hid (OwnT (w2.alloc (.cells #[] 25)) w.heap.size (.slice (some ⟨w2.heap.size, 0, none⟩) 0 0) []) := World.ownsRow_made w2 #[] 0 B2.out.size (by unfold maxLen; omega) (by simp)
        have B3 : Hid (Below w.heap.size w (w2.alloc (.cells #[] 25))) := B2.out.alloc B2.out.size _
        clear b2 o1 b1 K2
        go_wp2
        go_ret2
        exact ⟨_, rfl, O3, B3⟩
  · rw [if_neg ht] at hr he
    rw [he] at KL
    subst hr
    clear ht he hsz hz1 hz2 KC
    go_enter Tryz.func22, Tryz.ntmps22
    go_wp2_with fail
    refine KL.out.mono ?_
    rintro e w1 ⟨v, m, b, rfl, o1, b1, hy, hn⟩
    cases b with
    | true => exact absurd (hy rfl) (by simp)
    | false =>
      have O3 : Hid (OwnT (w1.alloc (.cells #[] 25)) w.heap.size (.slice (some ⟨w1.heap.size, 0, none⟩) 0 0) []) := World.ownsRow_made w1 #[] 0 b1.out.size (by unfold maxLen; omega) (by simp)
      have B3 : Hid (Below w.heap.size w (w1.alloc (.cells #[] 25))) := b1.out.alloc b1.out.size _
      clear hy hn o1
      go_wp2
      go_ret2
      exact ⟨_, rfl, O3, B3⟩
end Go.Proofs.YtdeppcddknakjaaGreatDoor.Mx
namespace Go.Proofs.YtdeppcddknakjaaGreatDoor.Mx
open Go.RowKit
open Go.Sort (grow)
open Go.Proofs.YtdeppcddknakjaaGreatDoor.Rx (EmpP SameP ChkP)
open Go.Proofs.YtdeppcddknakjaaGreatDoor.Lab (nameB getL Lb LS StrPost letterB quo quo_len ba_append ba_mk ba_ext)
/-- The operators lie in a block. -/
structure OpsB (g : Nat) (V : World) : Prop where
  c1 : V.cell? ⟨g, 1, none⟩ = some (.string ⟨#[61]⟩)
  c2 : V.cell? ⟨g, 2, none⟩ = some (.string ⟨#[33, 61]⟩)
  c3 : V.cell? ⟨g, 3, none⟩ = some (.string ⟨#[61, 126]⟩)
  c4 : V.cell? ⟨g, 4, none⟩ = some (.string ⟨#[33, 126]⟩)
theorem OpsB.new (w : World) : OpsB w.heap.size (w.alloc (.cells #[.string ⟨#[]⟩, .string ⟨#[61]⟩, .string ⟨#[33, 61]⟩, .string ⟨#[61, 126]⟩, .string ⟨#[33, 126]⟩] 9)) := by
  have h := heap_alloc_new w (.cells #[.string ⟨#[]⟩, .string ⟨#[61]⟩, .string ⟨#[33, 61]⟩, .string ⟨#[61, 126]⟩, .string ⟨#[33, 126]⟩] 9)
  refine ⟨?_, ?_, ?_, ?_⟩ <;> (rw [cell_of_row _ _ _ _ _ _ h]; rfl)
theorem OpsB.below {g : Nat} {V V' : World} (h : OpsB g V) (hg : g < V.heap.size) (hb : Below V.heap.size V V') : OpsB g V' :=
  ⟨(hb.cell (p := ⟨g, 1, none⟩) hg).trans h.c1, (hb.cell (p := ⟨g, 2, none⟩) hg).trans h.c2, (hb.cell (p := ⟨g, 3, none⟩) hg).trans h.c3, (hb.cell (p := ⟨g, 4, none⟩) hg).trans h.c4⟩
set_option maxHeartbeats 16000000 in
theorem refFormatM_any (l : List Mt) (hl : Sz' l) (hz : ∀ x ∈ l, x.n.size ≤ 100000 ∧ x.v.size ≤ 100000) (hf : (txtM l).length ≤ 1000000) (A : Option Addr) (c : Nat) (w : World) (hA : MS w w.heap.size A l) :
    Calls Tryz.prog 24 #[.slice A l.length c] w (StrPost (fmtO l) w) := by
  have hlm := hl.len
  unfold maxLen at hlm
  have KC := Lib.hid (refCheck_any l hl A c w hA)
  have mixed : Tryz.prog.follows .mixedOrders = true := by kernel_rfl
  by_cases hc : chkA l = 0
  · have HF : Hid (fmtO l = txtM l) := if_pos hc
    rw [HF.out]
    have HKK : Hid (∀ x ∈ l, x.k = 1 ∨ x.k = 2 ∨ x.k = 3 ∨ x.k = 4) := fun x hx => by
      have h := chk1_kind ((chkA_each hc).2 x hx)
      exact kinds h.1 h.2
    rw [hc] at KC
    have HA := Lib.hid hA
    have HZ := Lib.hid hz
    clear hA hz hc HF
    go_enter Tryz.func24, Tryz.ntmps24
    go_wp2_with fail
    refine KC.out.mono ?_
    rintro e w1 ⟨rfl, b1⟩
    obtain ⟨W, hW⟩ : ∃ W, W = w1.alloc (.cells #[.string ⟨#[]⟩, .string ⟨#[61]⟩, .string ⟨#[33, 61]⟩, .string ⟨#[61, 126]⟩, .string ⟨#[33, 126]⟩] 9) := ⟨_, rfl⟩
    have B1 : Hid (Below w.heap.size w W) := by rw [hW]; exact b1.out.alloc b1.out.size _
    have OB : Hid (OpsB w1.heap.size W) := by rw [hW]; exact OpsB.new w1
    have hg1 : w1.heap.size < W.heap.size := by rw [hW]; simp
    have HA1 := Lib.hid (HA.out.up B1.out)
    have HW := Lib.hid hW
    clear hW b1 HA KC
    go_wp2
    rw [← HW.out]
    clear HW
    generalize w1.heap.size = g at *
    go_loopw [4, 5] (fun vo vi wr => ∃ (k : Nat) (t : ByteArray), k ≤ l.length ∧ vi = .int .i64 k ∧ vo = .string t ∧ Hid (t.data.toList = [123] ++ bodyM (l.take k)) ∧ Hid (Below W.heap.size W wr)) (fun _ vi _ => l.length - (intOf vi).toNat)
    case atStart => exact ⟨0, _, by omega, rfl, rfl, rfl, Below.refl _ _⟩
    case round =>
      obtain ⟨k, t, hk, rfl, rfl, HT, HB⟩ := hrel
      by_cases hlt : k < l.length
      · obtain ⟨b, off, rfl, hb, h1', h2', h3'⟩ := HA1.out.at_ hlt
        have q1 := cell_regrown ((HB.out.cell (p := ⟨b, off + k * 3, none⟩) hb).trans h1')
        have q2 := cell_regrown ((HB.out.cell (p := ⟨b, off + k * 3 + 1, none⟩) hb).trans h2')
        have q3 := cell_regrown ((HB.out.cell (p := ⟨b, off + k * 3 + 2, none⟩) hb).trans h3')
        have OB2 := OB.out.below hg1 HB.out
        clear h1' h2' h3'
        obtain ⟨zn, zv⟩ := HZ.out _ (List.getElem_mem hlt)
        have hkk := HKK.out _ (List.getElem_mem hlt)
        have hts : t.size ≤ 1000000 := by
          have h1 := bodyM_take_le l k
          have h3 : t.data.toList.length = t.size := Array.length_toList
          rw [HT.out, List.length_append, List.length_singleton] at h3
          rw [txtM_len] at hf
          omega
        have HX : Hid (∀ t' : ByteArray, t'.data.toList = t.data.toList ++ (if 0 < k then [44] else []) → ∀ o : ByteArray, o.data.toList = opB l[k].k → (((((t' ++ l[k].n) ++ o) ++ ⟨#[34]⟩) ++ ⟨(quo l[k].v.data.toList).toArray⟩) ++ ⟨#[34]⟩).data.toList = [123] ++ bodyM (l.take (k + 1))) := fun t' ht o ho => by
          simp only [ba_append, ba_mk, ht, HT.out, ho]
          by_cases h0 : 0 < k
          · rw [bodyM_pos hlt h0, if_pos h0, mat1, qtd]
            simp [List.append_assoc]
          · rw [bodyM_zero hlt (by omega), if_neg h0, mat1, qtd]
            simp [List.append_assoc]
        have HQ : Hid (∀ w, Calls Tryz.prog 46 #[.string l[k].v] w fun e w' => e = .returned (.string ⟨(quo l[k].v.data.toList).toArray⟩) ∧ Below w.heap.size w w') := fun w => quotedM_any l[k].v zv w
        have hqs : (⟨(quo l[k].v.data.toList).toArray⟩ : ByteArray).size ≤ 200000 := by
          have h1 := quo_len l[k].v.data.toList
          have h2 : l[k].v.data.toList.length = l[k].v.size := Array.length_toList
          have h3 : (⟨(quo l[k].v.data.toList).toArray⟩ : ByteArray).data.toList.length = (⟨(quo l[k].v.data.toList).toArray⟩ : ByteArray).size := Array.length_toList
          rw [ba_mk] at h3
          omega
        generalize (⟨(quo l[k].v.data.toList).toArray⟩ : ByteArray) = q at *
        clear HT
        generalize l[k] = x at *
        obtain ⟨xk, xn, xv⟩ := x
        dsimp only at *
        obtain ⟨kn, o, rfl, hk5, hoc, ho, hos⟩ : ∃ (kn : Nat) (o : ByteArray), xk = (kn : Int) ∧ kn < 5 ∧ wr.cell? ⟨g, kn, none⟩ = some (.string o) ∧ o.data.toList = opB xk ∧ o.size ≤ 2 := by
          rcases hkk with rfl | rfl | rfl | rfl
          · exact ⟨1, _, rfl, by omega, OB2.c1, rfl, (show (1 : Nat) ≤ 2 by omega)⟩
          · exact ⟨2, _, rfl, by omega, OB2.c2, rfl, (show (2 : Nat) ≤ 2 by omega)⟩
          · exact ⟨3, _, rfl, by omega, OB2.c3, rfl, (show (2 : Nat) ≤ 2 by omega)⟩
          · exact ⟨4, _, rfl, by omega, OB2.c4, rfl, (show (2 : Nat) ≤ 2 by omega)⟩
        have hki : (kn : Int) < 5 := by omega
        have o1 := cell_regrown hoc
        clear OB2 hkk hoc
        by_cases h0 : 0 < k
        · have hg : decide (0 < k) = true := by simp [h0]
          have b1 : ¬ 9223372036854775807 < t.size + 1 + xn.size := by omega
          have b2 : ¬ 9223372036854775807 < t.size + 1 + xn.size + o.size := by omega
          have b3 : ¬ 9223372036854775807 < t.size + 1 + xn.size + o.size + 1 := by omega
          have b4 : ¬ 9223372036854775807 < t.size + 1 + xn.size + o.size + 1 + q.size := by omega
          have b5 : ¬ 9223372036854775807 < t.size + 1 + xn.size + o.size + 1 + q.size + 1 := by omega
          have HX2 := Lib.hid (HX.out (t ++ ⟨#[44]⟩) (by rw [ba_append, if_pos h0]) o ho)
          clear HX
          go_wp2
          refine wp_region_quiet_below (by assumption) (by kernel_rfl) ?_
          iterate 22 quiet_step (fail)
          quiet_step (exact Calls.regrown_of (HQ.out _))
          iterate 3 quiet_step (fail)
          refine wpQuiet_nil ?_
          intro _ hw'
          obtain ⟨⟨dq, osq⟩, hw''⟩ := hw'
          subst hw''
          have HZ := Lib.hid (HB.out.trans ((below_regrown wr dq osq).mono HB.out.size))
          generalize grow (redrawn wr dq) osq = WZ at *
          go_wp2_with fail
          go_roundw
          case rel => exact ⟨k + 1, _, by omega, by go_num, rfl, HX2.out, HZ⟩
          case measure => simp [intOf]; omega
        · have hg : decide (0 < k) = false := by simp; omega
          have b1 : ¬ 9223372036854775807 < t.size + xn.size := by omega
          have b2 : ¬ 9223372036854775807 < t.size + xn.size + o.size := by omega
          have b3 : ¬ 9223372036854775807 < t.size + xn.size + o.size + 1 := by omega
          have b4 : ¬ 9223372036854775807 < t.size + xn.size + o.size + 1 + q.size := by omega
          have b5 : ¬ 9223372036854775807 < t.size + xn.size + o.size + 1 + q.size + 1 := by omega
          have HX2 := Lib.hid (HX.out (t) (by rw [if_neg h0, List.append_nil]) o ho)
          clear HX
          go_wp2
          refine wp_region_quiet_below (by assumption) (by kernel_rfl) ?_
          iterate 22 quiet_step (fail)
          quiet_step (exact Calls.regrown_of (HQ.out _))
          iterate 3 quiet_step (fail)
          refine wpQuiet_nil ?_
          intro _ hw'
          obtain ⟨⟨dq, osq⟩, hw''⟩ := hw'
          subst hw''
          have HZ := Lib.hid (HB.out.trans ((below_regrown wr dq osq).mono HB.out.size))
          generalize grow (redrawn wr dq) osq = WZ at *
          go_wp2_with fail
          go_roundw
          case rel => exact ⟨k + 1, _, by omega, by go_num, rfl, HX2.out, HZ⟩
          case measure => simp [intOf]; omega
      · have hT := HT.out
        rw [List.take_of_length_le (by omega)] at hT
        have hts : t.size ≤ 1000000 := by
          have h3 : t.data.toList.length = t.size := Array.length_toList
          rw [hT, List.length_append, List.length_singleton] at h3
          rw [txtM_len] at hf
          omega
        have HE : Hid (t ++ ⟨#[125]⟩ = ⟨(txtM l).toArray⟩) := by
          apply ba_ext
          rw [ba_append, hT, ba_mk]
          rfl
        have HR : Hid (Below w.heap.size w wr) := B1.out.trans (HB.out.mono B1.out.size)
        clear hT HT
        go_wp2
        go_ret
        exact ⟨by rw [← HE.out]; rfl, HR.out⟩
  · have HF : Hid (fmtO l = []) := if_neg hc
    have e0 := bneF hc
    have e0' : (chkA l != 0) = true := by rw [bne, e0]; rfl
    rw [HF.out]
    clear hc HF hA hz
    generalize chkA l = q at *
    go_enter Tryz.func24, Tryz.ntmps24
    go_wp2_with fail
    refine KC.out.mono ?_
    rintro e w1 ⟨rfl, b1⟩
    go_wp2
    go_ret
    exact ⟨rfl, b1.out⟩
end Go.Proofs.YtdeppcddknakjaaGreatDoor.Mx
