/- Layer 6, ahead: the promises about operators, quoting, prefixes and emptiness, of expressions as lists. -/
import Derived.Test.YtilfggnhaehbcaaRxA
set_option linter.unusedVariables false
set_option linter.unusedSimpArgs false
namespace Go.Proofs.Ytilfggnhaehbcaa.Rx
theorem either_mat {rp rq : Re} {s : List UInt8} : Mat (.alt [.cat [rp], .cat [rq]]) s ↔ Mat rp s ∨ Mat rq s := by rw [mat_alt2, mat_one, mat_one]
theorem concat_mat {rp rq : Re} {s : List UInt8} : Mat (.alt [.cat [rp, rq]]) s ↔ ∃ a b, s = a ++ b ∧ Mat rp a ∧ Mat rq b := by
  rw [mat_alt1, mat_cons]
  simp only [mat_one]
theorem one_mat {r : Re} {s : List UInt8} : Mat (.alt [.cat [r]]) s ↔ Mat r s := by rw [mat_alt1, mat_one]
theorem maybe_mat {r : Re} {s : List UInt8} : Mat (.alt [.cat [.alt [.cat [], r]]]) s ↔ s = [] ∨ Mat r s := by rw [one_mat, mat_alt2, mat_nil]
/-- Two parts, by the place between them. -/
theorem split_iff {P Q : List UInt8 → Prop} {s : List UInt8} : (∃ a b, s = a ++ b ∧ P a ∧ Q b) ↔ ∃ i, i ≤ s.length ∧ P (s.take i) ∧ Q (s.drop i) := by
  constructor
  · rintro ⟨a, b, rfl, h, k⟩
    exact ⟨a.length, by simp, by simpa using h, by simpa using k⟩
  · rintro ⟨i, _, h, k⟩
    exact ⟨_, _, (List.take_append_drop i s).symm, h, k⟩
theorem star_split {r : Re} {s : List UInt8} : Mat (.star r) s ↔ s = [] ∨ ∃ i, 0 < i ∧ i ≤ s.length ∧ Mat r (s.take i) ∧ Mat (.star r) (s.drop i) := by
  rw [mat_star]
  constructor
  · rintro (h | ⟨a, b, ha, rfl, h, k⟩)
    · exact .inl h
    · exact .inr ⟨a.length, List.length_pos_iff.2 ha, by simp, by simpa using h, by simpa using k⟩
  · rintro (h | ⟨i, h0, hi, h, k⟩)
    · exact .inl h
    · refine .inr ⟨_, _, ?_, (List.take_append_drop i s).symm, h, k⟩
      intro e
      have := congrArg List.length e
      rw [List.length_take, List.length_nil] at this
      omega
theorem plus_split {r : Re} {s : List UInt8} : Mat (.plus r) s ↔ ∃ i, i ≤ s.length ∧ Mat r (s.take i) ∧ Mat (.star r) (s.drop i) := by rw [mat_plus, split_iff]
/-! Quoting. -/
def quote (s : List UInt8) : List UInt8 := s.flatMap fun c => if special c = true then [92, c] else [c]
theorem quote_cons (c : UInt8) (s : List UInt8) : quote (c :: s) = (if special c = true then [92, c] else [c]) ++ quote s := by simp [quote]
theorem rep_special {c : UInt8} (h : rep c = true) : special c = true := by
  unfold rep at h
  unfold special
  simp only [Bool.or_eq_true, beq_iff_eq] at h ⊢
  rcases h with (h | h) | h <;> simp [h]
theorem quote_head {s r : List UInt8} {c : UInt8} (h : quote s = c :: r) : rep c = false := by
  cases s with
  | nil => cases h
  | cons d s =>
    rw [quote_cons] at h
    split at h
    · cases h; decide
    · rename_i hd
      cases h
      rw [← Bool.not_eq_true]
      exact fun e => hd (rep_special e)
theorem post_plain {n : Re} {l : List UInt8} (h : ∀ c r, l = c :: r → rep c = false) : post n l = some (n, l) := by
  match l with
  | [] => rfl
  | [c] => rw [post, if_neg (by rw [h c [] rfl]; decide)]
  | c :: d :: r => rw [post, if_neg (by rw [h c (d :: r) rfl]; decide)]
theorem special_esc {c : UInt8} (h : special c = true) : escRe c = some (.byte c) := by
  unfold special at h
  simp only [Bool.or_eq_true, beq_iff_eq] at h
  rcases h with ((((((((h | h) | h) | h) | h) | h) | h) | h) | h) | h <;> subst h <;> rfl
theorem pe_quote : ∀ (s : List UInt8) (k : Nat) (outs now : List Re), (quote s).length + 1 ≤ k → pe k outs now (quote s) = some (.alt (outs ++ [.cat (now ++ s.map .byte)]), [])
  | [], k, outs, now, hk => by
    obtain ⟨k, rfl⟩ : ∃ i, k = i + 1 := ⟨k - 1, by have h : (quote []).length = 0 := rfl; omega⟩
    rw [List.map_nil, List.append_nil]
    rfl
  | c :: s, k, outs, now, hk => by
    obtain ⟨k, rfl⟩ : ∃ i, k = i + 1 := ⟨k - 1, by omega⟩
    have hpost : post (.byte c) (quote s) = some (.byte c, quote s) := post_plain fun d r e => quote_head e
    rw [quote_cons] at hk ⊢
    split at hk
    · rename_i hc
      rw [if_pos hc]
      show pe (k + 1) outs now (92 :: (c :: quote s)) = _
      rw [pe_step (n := .byte c) (n' := .byte c) (r1 := quote s) (by decide) (by decide) (by
        rw [atom, if_neg (by decide), if_neg (by decide), if_pos rfl, escReAt, special_esc hc]
        rfl) hpost, pe_quote s k outs (now ++ [Re.byte c]) (by simp only [List.length_append, List.length_cons, List.length_nil] at hk; omega), List.map_cons, List.append_assoc]
      rfl
    · rename_i hc
      rw [if_neg hc]
      have hc' : special c = false := by simpa using hc
      show pe (k + 1) outs now (c :: quote s) = _
      rw [pe_step (n := .byte c) (n' := .byte c) (r1 := quote s) (by rintro rfl; exact absurd hc' (by decide)) (by rintro rfl; exact absurd hc' (by decide)) (by rw [atom, if_pos hc']) hpost,
        pe_quote s k outs (now ++ [Re.byte c]) (by simp only [List.length_append, List.length_cons, List.length_nil] at hk; omega), List.map_cons, List.append_assoc]
      rfl
theorem parse_quote (s : List UInt8) : parse (quote s) = some (.alt [.cat (s.map .byte)]) := parse_of (by rw [pe_quote s _ [] [] (Nat.le_refl _)]; rfl)
theorem bytes_mat : ∀ (b s : List UInt8), Mat (.cat (b.map .byte)) s ↔ s = b
  | [], s => mat_nil
  | c :: b, s => by
    rw [List.map_cons, mat_cons]
    constructor
    · rintro ⟨x, y, rfl, h, k⟩
      rw [mat_byte] at h
      rw [bytes_mat b] at k
      rw [h, k]
      rfl
    · rintro rfl
      exact ⟨[c], b, rfl, mat_byte.2 rfl, (bytes_mat b b).2 rfl⟩
theorem quote_mat (s t : List UInt8) : Mat (.alt [.cat (s.map .byte)]) t ↔ t = s := by rw [mat_alt1, bytes_mat]
/-! Prefixes. -/
def leadB : List Re → List UInt8 × Bool
  | [] => ([], true)
  | .byte c :: l => (c :: (leadB l).1, (leadB l).2)
  | _ :: _ => ([], false)
def prefix_ : Re → List UInt8 × Bool
  | .alt [.cat l] => leadB l
  | _ => ([], false)
theorem lead_mat : ∀ (l : List Re) (s : List UInt8), Mat (.cat l) s → (leadB l).1 <+: s ∧ ((leadB l).2 = true → s = (leadB l).1)
  | [], s, h => by
    rw [mat_nil] at h
    subst h
    exact ⟨List.prefix_refl _, fun _ => rfl⟩
  | r :: l, s, h => by
    cases r with
    | byte c =>
      rw [mat_cons] at h
      obtain ⟨a, b, rfl, h1, h2⟩ := h
      rw [mat_byte] at h1
      subst h1
      obtain ⟨k1, k2⟩ := lead_mat l b h2
      exact ⟨(List.prefix_append_right_inj [c]).2 k1, fun e => by
        rw [k2 e]
        rfl⟩
    | _ => exact ⟨List.nil_prefix, fun e => by cases e⟩
theorem lead_all : ∀ (l : List Re), (leadB l).2 = true → Mat (.cat l) (leadB l).1
  | [], _ => .cat_nil
  | r :: l, h => by
    cases r with
    | byte c => exact mat_cons.2 ⟨[c], _, rfl, mat_byte.2 rfl, lead_all l h⟩
    | _ => cases h
theorem prefix_cases (r : Re) : (∃ l, r = .alt [.cat l] ∧ prefix_ r = leadB l) ∨ prefix_ r = ([], false) := by
  unfold prefix_
  split
  · exact .inl ⟨_, rfl, rfl⟩
  · exact .inr rfl
theorem prefix_mat {r : Re} {s : List UInt8} (h : Mat r s) : (prefix_ r).1 <+: s := by
  rcases prefix_cases r with ⟨l, rfl, e⟩ | e
  · rw [e]; exact (lead_mat l s (mat_alt1.1 h)).1
  · rw [e]; exact List.nil_prefix
theorem prefix_all {r : Re} (h : (prefix_ r).2 = true) (s : List UInt8) : Mat r s ↔ s = (prefix_ r).1 := by
  rcases prefix_cases r with ⟨l, rfl, e⟩ | e
  · rw [e] at h ⊢
    rw [mat_alt1]
    exact ⟨fun k => (lead_mat l s k).2 h, fun k => by rw [k]; exact lead_all l h⟩
  · rw [e] at h; cases h
theorem lead_bytes : ∀ s : List UInt8, leadB (s.map .byte) = (s, true)
  | [] => rfl
  | c :: s => by rw [List.map_cons, leadB, lead_bytes s]
theorem prefix_quote (s : List UInt8) : prefix_ (.alt [.cat (s.map .byte)]) = (s, true) := lead_bytes s
/-! Emptiness. -/
def noneIn (f : UInt8 → Bool) : Bool := (List.range 256).all fun k => !f (UInt8.ofNat k)
mutual
def emptyR : Re → Bool
  | .byte _ => false
  | .cls f => noneIn f
  | .cat l => anyE l
  | .alt l => allE l
  | .star _ => false
  | .plus r => emptyR r
def anyE : List Re → Bool
  | [] => false
  | r :: l => emptyR r || anyE l
def allE : List Re → Bool
  | [] => true
  | r :: l => emptyR r && allE l
end
theorem noneIn_iff {f : UInt8 → Bool} (h : noneIn f = true) (c : UInt8) : f c = false := by
  have h1 := List.all_eq_true.1 h c.toNat (List.mem_range.2 c.toNat_lt)
  simpa using h1
theorem allE_mem : ∀ {l : List Re} {r : Re}, allE l = true → r ∈ l → emptyR r = true
  | [], _, _, h => by cases h
  | x :: l, r, h, hm => by
    rw [allE, Bool.and_eq_true] at h
    rcases List.mem_cons.1 hm with rfl | hm
    · exact h.1
    · exact allE_mem h.2 hm
theorem empty_mat {r : Re} {s : List UInt8} (h : Mat r s) : emptyR r = false := by
  induction h with
  | byte c => rfl
  | cls f c hc =>
    rw [emptyR, ← Bool.not_eq_true]
    intro e
    rw [noneIn_iff e c] at hc
    cases hc
  | cat_nil => rfl
  | cat_cons _ _ ih1 ih2 =>
    rw [emptyR] at ih2 ⊢
    rw [anyE, ih1, ih2]
    rfl
  | alt hm _ ih =>
    rw [emptyR, ← Bool.not_eq_true]
    intro e
    rw [allE_mem e hm] at ih
    cases ih
  | star_nil => rfl
  | star_cons _ _ _ _ => rfl
  | plus _ _ ih1 _ => rw [emptyR]; exact ih1
theorem empty_either (a b : Re) : emptyR (.alt [.cat [a], .cat [b]]) = (emptyR a && emptyR b) := by simp [emptyR, allE, anyE]
theorem empty_concat (a b : Re) : emptyR (.alt [.cat [a, b]]) = (emptyR a || emptyR b) := by simp [emptyR, allE, anyE]
theorem empty_star (a : Re) : emptyR (.alt [.cat [.star a]]) = false := by simp [emptyR, allE, anyE]
theorem empty_maybe (a : Re) : emptyR (.alt [.cat [.alt [.cat [], a]]]) = false := by simp [emptyR, allE, anyE]
theorem empty_plus (a : Re) : emptyR (.alt [.cat [.plus a]]) = emptyR a := by simp [emptyR, allE, anyE]
theorem empty_quote (s : List UInt8) : emptyR (.alt [.cat (s.map .byte)]) = false := empty_mat ((quote_mat s s).2 rfl)
end Go.Proofs.Ytilfggnhaehbcaa.Rx
