/- Texts of fractions: what is written is read. -/
import Derived.Test.YtbhlpcomgfmodaaDoorRatV
set_option linter.unusedVariables false
set_option linter.unusedSimpArgs false
namespace Go.Proofs.YtbhlpcomgfmodaaDoor.Rat
open Go.RowKit

theorem numGo_append : ∀ (l m : List UInt8) (n : Nat), numGo (l ++ m) n = (numGo l n).bind (numGo m)
  | [], m, n => rfl
  | c :: l, m, n => by
    rw [List.cons_append, numGo, numGo]
    split
    · rfl
    · exact numGo_append l m _
theorem numGo_dec (n : Nat) (h : n ≤ 1152921504606846979) : numGo (decL n) 0 = some n := by
  induction n using Nat.strongRecOn with
  | ind n ih =>
    have hd := dig_toNat n
    by_cases h10 : n < 10
    · rw [decL_small h10, numGo_ok (by omega), hd]
      show some _ = _
      congr 1
      omega
    · rw [decL_big h10, numGo_append, ih (n / 10) (by omega) (by omega)]
      show numGo [dig n] (n / 10) = _
      rw [numGo_ok (by omega), hd]
      show some _ = _
      congr 1
      omega
theorem dec_digits (n : Nat) : ∀ c ∈ decL n, 48 ≤ c.toNat ∧ c.toNat ≤ 57 := by
  induction n using Nat.strongRecOn with
  | ind n ih =>
    have hd := dig_toNat n
    intro c hc
    by_cases h10 : n < 10
    · rw [decL_small h10] at hc
      simp at hc
      subst hc
      omega
    · rw [decL_big h10] at hc
      rcases List.mem_append.1 hc with hc | hc
      · exact ih (n / 10) (by omega) c hc
      · simp at hc
        subst hc
        omega
theorem dec_pos (n : Nat) : 0 < (decL n).length := by
  by_cases h10 : n < 10
  · rw [decL_small h10]; simp
  · rw [decL_big h10]; simp
theorem numOut_dec (n : Nat) (h : n ≤ 1152921504606846976) : numOut (decL n) = ((n : Int), true) := by
  unfold numOut
  rw [numGo_dec n (by omega)]
  have := dec_pos n
  simp [h]
  exact this
theorem spl_none {l : List UInt8} (h : ∀ c ∈ l, c ≠ 47) : spl l 0 = (l, []) := by
  unfold spl
  rw [List.drop_zero]
  have : l.findIdx? (· == 47) = none := by
    rw [List.findIdx?_eq_none_iff]
    intro c hc
    simp [h c hc]
  rw [this]
theorem spl_slash {l m : List UInt8} (h : ∀ c ∈ l, c ≠ 47) : spl (l ++ 47 :: m) 0 = (l, m) := by
  unfold spl
  rw [List.drop_zero]
  have : (l ++ 47 :: m).findIdx? (· == 47) = some l.length := by
    rw [List.findIdx?_append]
    have h1 : l.findIdx? (· == 47) = none := by
      rw [List.findIdx?_eq_none_iff]
      intro c hc
      simp [h c hc]
    rw [h1, List.findIdx?_cons]
    simp
  rw [this]
  simp
theorem dec_no47 (n : Nat) : ∀ c ∈ decL n, c ≠ 47 := fun c hc e => by
  have := dec_digits n c hc
  rw [e] at this
  have h : (47 : UInt8).toNat = 47 := rfl
  omega
theorem dec_head (n : Nat) : ¬ (decL n).head? = some 45 := fun h => by
  have hm : (45 : UInt8) ∈ decL n := List.mem_of_head? h
  have := dec_digits n 45 hm
  have h2 : (45 : UInt8).toNat = 45 := rfl
  omega
/-- The two numbers of a text. -/
theorem parse_num (n : Int) (h : n.natAbs ≤ 1152921504606846976) (b : List UInt8) :
    parseAB ((if n < 0 then [45] else []) ++ decL n.natAbs) b = if b = [] then (n, 1, true) else (n, (numOut b).1, (numOut b).2) := by
  by_cases hs : n < 0
  · rw [if_pos hs, parse_minus (by simp)]
    show (if b = [] then (-1 * (numOut (decL n.natAbs)).1, (1 : Int), (numOut (decL n.natAbs)).2) else _) = _
    simp only [List.cons_append, List.nil_append, List.tail_cons, numOut_dec _ h, Bool.true_and]
    rw [show -1 * ((n.natAbs : Nat) : Int) = n by omega]
  · rw [if_neg hs, List.nil_append, parse_plain (dec_head _)]
    simp only [numOut_dec _ h, Bool.true_and]
    rw [show 1 * ((n.natAbs : Nat) : Int) = n by omega]
theorem parse_text {n : Int} {D : Nat} (h : chk n D) : parseL (fmtL n D) = (n, (D : Int), true) := by
  obtain ⟨⟨hd1, hd2⟩, ⟨hn1, hn2⟩, _⟩ := h
  have hno : ∀ c ∈ (if n < 0 then [45] else []) ++ decL n.natAbs, c ≠ (47 : UInt8) := by
    intro c hc
    rcases List.mem_append.1 hc with hc | hc
    · split at hc
      · simp at hc; subst hc; decide
      · simp at hc
    · exact dec_no47 _ c hc
  unfold parseL fmtL
  by_cases h1 : (1 : Int) < D
  · rw [if_pos h1, spl_slash hno, Int.natAbs_natCast, parse_num n (by omega)]
    have hp := dec_pos D
    have hne : decL D ≠ [] := fun e => by rw [e] at hp; simp at hp
    dsimp only
    rw [if_neg hne, numOut_dec D (by omega)]
  · rw [if_neg h1, List.append_nil, spl_none hno, parse_num n (by omega), if_pos rfl]
    rw [show (D : Int) = 1 by omega]
/-- What can be parsed is a text. -/
theorem parse_valid {s : ByteArray} {n d : Int} (hp : parseL s.data.toList = (n, d, true)) (hf : fmtS n d = s) : chk n d := by
  by_cases h : chk n d
  · exact h
  · exfalso
    unfold fmtS at hf
    rw [if_neg h] at hf
    rw [← hf] at hp
    have e : parseL (⟨#[]⟩ : ByteArray).data.toList = (0, 1, false) := by decide
    rw [e] at hp
    simp at hp
theorem parseOut_yes {n : Int} {D : Nat} (h : chk n D) : parseOut (fmtS n D) = .tuple #[rat n D, .int .i64 0] := by
  have hs : (fmtS n D).data.toList = fmtL n D := by unfold fmtS; rw [if_pos h]
  unfold parseOut
  rw [hs, parse_text h]
  exact outP_eq rfl
theorem parseOut_no {s : ByteArray} (h : ∀ n d, chk n d → fmtS n d ≠ s) : parseOut s = .tuple #[rat 0 0, .int .i64 3] := by
  unfold parseOut
  generalize hr : parseL s.data.toList = r
  obtain ⟨n, d, ok⟩ := r
  cases ok
  · exact outP_no
  · exact outP_ne (fun e => h n d (parse_valid hr e) e)
end Go.Proofs.YtbhlpcomgfmodaaDoor.Rat
