/- Layer 5: reading a text, as a function of lists. -/
import Derived.Test.YtbphhdmnfepbnaaLM
set_option linter.unusedVariables false
set_option linter.unusedSimpArgs false
namespace Go.Proofs.Ytbphhdmnfepbnaa.Lab
open Go.RowKit
/-- A quoted value behind its first mark; what follows the second one. -/
def unq : List UInt8 → Option (List UInt8 × List UInt8)
  | [] => none
  | [c] => if c.toNat = 34 then some ([], []) else none
  | c :: d :: r => if c.toNat = 34 then some ([], d :: r) else if c.toNat = 10 then none else
      if c.toNat = 92 then (if d.toNat = 92 ∨ d.toNat = 34 then (unq r).map (fun p => (d :: p.1, p.2)) else if d.toNat = 110 then (unq r).map (fun p => (10 :: p.1, p.2)) else none)
      else (unq (d :: r)).map (fun p => (c :: p.1, p.2))
/-- Bytes ahead of a result. -/
def pre (o : List UInt8) (x : Option (List UInt8 × List UInt8)) : Option (List UInt8 × List UInt8) := x.map fun p => (o ++ p.1, p.2)
theorem pre_nil (x : Option (List UInt8 × List UInt8)) : pre [] x = x := by cases x <;> rfl
theorem pre_pre (a b : List UInt8) (x : Option (List UInt8 × List UInt8)) : pre a (pre b x) = pre (a ++ b) x := by cases x <;> simp [pre]
theorem pre_none (a : List UInt8) : pre a none = none := rfl
theorem pre_some (a b r : List UInt8) : pre a (some (b, r)) = some (a ++ b, r) := rfl
theorem unq_nil : unq [] = none := rfl
theorem unq_end {c : UInt8} (r : List UInt8) (h : c.toNat = 34) : unq (c :: r) = some ([], r) := by
  cases r with
  | nil => rw [unq, if_pos h]
  | cons d r => rw [unq, if_pos h]
theorem unq_nl {c : UInt8} (r : List UInt8) (h : c.toNat = 10) : unq (c :: r) = none := by
  cases r with
  | nil => rw [unq, if_neg (by omega)]
  | cons d r => rw [unq, if_neg (by omega), if_pos h]
theorem unq_plain {c : UInt8} (r : List UInt8) (h : plainB c.toNat = true) : unq (c :: r) = pre [c] (unq r) := by
  unfold plainB at h
  rw [decide_eq_true_iff] at h
  cases r with
  | nil =>
    have e : unq [c] = none := by rw [unq, if_neg (by omega)]
    rw [e]
    rfl
  | cons d r => rw [unq, if_neg (by omega), if_neg (by omega), if_neg (by omega)]; rfl
theorem unq_esc {c d : UInt8} (r : List UInt8) (h : c.toNat = 92) (hd : d.toNat = 92 ∨ d.toNat = 34) : unq (c :: d :: r) = pre [d] (unq r) := by
  rw [unq, if_neg (by omega), if_neg (by omega), if_pos h, if_pos hd]; rfl
theorem unq_n {c d : UInt8} (r : List UInt8) (h : c.toNat = 92) (hd : d.toNat = 110) : unq (c :: d :: r) = pre [10] (unq r) := by
  rw [unq, if_neg (by omega), if_neg (by omega), if_pos h, if_neg (by omega), if_pos hd]; rfl
theorem unq_bad {c d : UInt8} (r : List UInt8) (h : c.toNat = 92) (h1 : ¬ d.toNat = 92) (h2 : ¬ d.toNat = 34) (h3 : ¬ d.toNat = 110) : unq (c :: d :: r) = none := by
  rw [unq, if_neg (by omega), if_neg (by omega), if_pos h, if_neg (by omega), if_neg h3]
theorem unq_one {c : UInt8} (h : c.toNat = 92) : unq [c] = none := by rw [unq, if_neg (by omega)]
theorem unq_plains : ∀ (a r : List UInt8), (∀ c ∈ a, plainB c.toNat = true) → unq (a ++ r) = pre a (unq r)
  | [], r, _ => by rw [List.nil_append, pre_nil]
  | c :: a, r, h => by
    rw [List.cons_append, unq_plain _ (h c (by simp)), unq_plains a r (fun x hx => h x (by simp [hx])), pre_pre]
    rfl
/-- What is read is shorter. -/
theorem unq_len : ∀ (l : List UInt8) (a r : List UInt8), unq l = some (a, r) → a.length + r.length + 1 ≤ l.length
  | [], a, r, h => by cases h
  | [c], a, r, h => by
    rw [unq] at h
    split at h
    · cases h; simp
    · cases h
  | c :: d :: l, a, r, h => by
    rw [unq] at h
    split at h
    · cases h; simp
    · split at h
      · cases h
      · split at h
        · split at h
          · cases hu : unq l with
            | none => rw [hu] at h; cases h
            | some p =>
              rw [hu] at h
              cases h
              have := unq_len l p.1 p.2 hu
              simp only [List.length_cons]
              omega
          · split at h
            · cases hu : unq l with
              | none => rw [hu] at h; cases h
              | some p =>
                rw [hu] at h
                cases h
                have := unq_len l p.1 p.2 hu
                simp only [List.length_cons]
                omega
            · cases h
        · cases hu : unq (d :: l) with
          | none => rw [hu] at h; cases h
          | some p =>
            rw [hu] at h
            cases h
            have := unq_len (d :: l) p.1 p.2 hu
            simp only [List.length_cons] at this ⊢
            omega
def mkS (l : List UInt8) : ByteArray := ⟨l.toArray⟩
/-- A label; what follows it. -/
def labP (l : List UInt8) : Option (Lb × List UInt8) :=
  if lead letterB l = 0 then none else
  match l.drop (lead letterB l) with
  | c :: d :: r => if c.toNat = 61 ∧ d.toNat = 34 then (unq r).map (fun p => (⟨mkS (l.take (lead letterB l)), mkS p.1⟩, p.2)) else none
  | _ => none
/-- Labels with commas between them, and the brace. -/
def labsP : Nat → List UInt8 → Option (List Lb)
  | 0, _ => none
  | f + 1, l =>
    match labP l with
    | none => none
    | some (x, r) =>
      match r with
      | [] => none
      | c :: r' => if c.toNat = 44 then (labsP f r').map (fun m => x :: m) else if c.toNat = 125 ∧ r' = [] then some [x] else none
/-- A text. -/
def txtP : List UInt8 → Option (List Lb)
  | [] => none
  | c :: r => if c.toNat = 123 then (if r = [125] then some [] else labsP (r.length + 1) r) else none
/-- Parse. -/
def parseO (l : List UInt8) : List Lb × Int :=
  match txtP l with
  | none => ([], 3)
  | some m => if chk m = 0 then (m, 0) else ([], chk m)
theorem labP_len {l r : List UInt8} {x : Lb} (h : labP l = some (x, r)) : r.length + 4 ≤ l.length := by
  unfold labP at h
  split at h
  · cases h
  · rename_i h0
    split at h
    · rename_i c d r' he
      split at h
      · cases hu : unq r' with
        | none => rw [hu] at h; cases h
        | some p =>
          rw [hu] at h
          cases h
          have h1 := unq_len r' p.1 p.2 hu
          have h2 := congrArg List.length he
          rw [List.length_drop, List.length_cons, List.length_cons] at h2
          omega
      · cases h
    · cases h
end Go.Proofs.Ytbphhdmnfepbnaa.Lab
