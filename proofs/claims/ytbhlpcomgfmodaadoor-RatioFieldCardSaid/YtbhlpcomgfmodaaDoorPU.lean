/- What Cut and Atoi come to at a fraction's text. -/
import Derived.Test.YtbhlpcomgfmodaaDoorPT
import Derived.Test.YtbhlpcomgfmodaaDoorRatX
import Derived.Lib.Index
import Derived.Lib.IndexMore
import Derived.Lib.AtoiAllCases
import Derived.Lib.AtoiErrMem
set_option linter.unusedVariables false
set_option linter.unusedSimpArgs false
namespace Go.Proofs.YtbhlpcomgfmodaaDoor.Pro
open Go.RowKit

theorem cut_none {l : List UInt8} (h : ∀ c ∈ l, c ≠ 47) : Lib.cut l [47] = (l, [], false) := by
  have hi : Lib.index l [47] = -1 := Lib.index_none fun j hj => by
    cases ho : Lib.occAt l [47] j with
    | false => rfl
    | true =>
      have h1 := Lib.occAt_head rfl ho
      exact absurd rfl (h 47 (List.mem_of_getElem? h1))
  unfold Lib.cut
  rw [hi]
  rfl
theorem cut_slash {l m : List UInt8} (h : ∀ c ∈ l, c ≠ 47) : Lib.cut (l ++ 47 :: m) [47] = (l, m, true) := by
  have hi : Lib.index (l ++ 47 :: m) [47] = (l.length : Nat) := by
    refine Lib.index_first (by simp) ?_ fun j hj => ?_
    · rw [Lib.occAt_iff_take _ _ _ (by simp)]
      simp
    · cases ho : Lib.occAt (l ++ 47 :: m) [47] j with
      | false => rfl
      | true =>
        have h1 := Lib.occAt_head rfl ho
        rw [List.getElem?_append_left hj] at h1
        exact absurd rfl (h 47 (List.mem_of_getElem? h1))
  unfold Lib.cut
  rw [hi]
  simp
theorem pu_append : ∀ (l m : List UInt8) (a b : Nat), Lib.parseUint10 a l = .ok b → Lib.parseUint10 a (l ++ m) = Lib.parseUint10 b m
  | [], m, a, b, h => by
    simp only [Lib.parseUint10] at h
    injection h with h
    rw [h]; rfl
  | c :: r, m, a, b, h => by
    simp only [Lib.parseUint10, List.cons_append] at h ⊢
    split at h
    · rename_i h1
      rw [if_pos h1]
      split at h
      · cases h
      · rename_i h2
        rw [if_neg h2]
        split at h
        · cases h
        · rename_i h3
          rw [if_neg h3]
          exact pu_append r m _ b h
    · cases h
theorem pu_dec (n : Nat) (h : n ≤ 1152921504606846976) : Lib.parseUint10 0 (Rat.decL n) = .ok n := by
  induction n using Nat.strongRecOn with
  | ind n ih =>
    have hd := Rat.dig_toNat n
    by_cases h10 : n < 10
    · rw [Rat.decL_small h10]
      simp only [Lib.parseUint10]
      rw [if_pos (by omega), if_neg (by omega), if_neg (by omega)]
      congr 1
      omega
    · rw [Rat.decL_big h10, pu_append _ _ _ _ (ih (n / 10) (by omega) (by omega))]
      simp only [Lib.parseUint10]
      rw [if_pos (by omega), if_neg (by omega), if_neg (by omega)]
      congr 1
      omega
theorem dec_ne (n : Nat) : Rat.decL n ≠ [] := fun h => by have := Rat.dec_pos n; rw [h] at this; simp at this
theorem atoi_num (n : Int) (h : n.natAbs ≤ 1152921504606846976) : Lib.atoiAll ((if n < 0 then [45] else []) ++ Rat.decL n.natAbs) = .ok n := by
  have hm : Lib.parseMag (Rat.decL n.natAbs) = .ok n.natAbs := by
    unfold Lib.parseMag
    rw [if_neg (dec_ne _), pu_dec _ h]
  by_cases hn : n < 0
  · rw [if_pos hn]
    show Lib.atoiAll (45 :: Rat.decL n.natAbs) = _
    rw [Lib.atoiAll_minus, hm]
    unfold Lib.signed
    simp only
    rw [if_neg (by omega)]
    congr 1
    omega
  · rw [if_neg hn, List.nil_append]
    cases hc : Rat.decL n.natAbs with
    | nil => exact absurd hc (dec_ne _)
    | cons c r =>
      have hdg := Rat.dec_digits n.natAbs c (by rw [hc]; exact List.mem_cons_self)
      rw [Lib.atoiAll_plain c r (by omega) (by omega), ← hc, hm]
      unfold Lib.signless
      simp only
      rw [if_neg (by omega)]
      congr 1
      omega
/-- What Atoi hands back as the number. -/
def atoiV (l : List UInt8) : Int := match Lib.atoiAll l with
  | .ok v => v
  | .range => Lib.atoiSat l
  | _ => 0
theorem atoiV_inI (l : List UInt8) : inI (atoiV l) := by
  unfold atoiV inI
  cases h : Lib.atoiAll l with
  | ok v => exact Lib.atoiAll_bounds h
  | range => unfold Lib.atoiSat; simp only; split <;> omega
  | _ => simp
end Go.Proofs.YtbhlpcomgfmodaaDoor.Pro
