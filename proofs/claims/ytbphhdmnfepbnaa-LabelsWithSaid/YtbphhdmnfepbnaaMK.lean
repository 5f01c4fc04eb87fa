/- Layer 5: what Keep and Drop keep. -/
import Derived.Test.YtbphhdmnfepbnaaMO
import Derived.Test.YtbphhdmnfepbnaaGW
set_option linter.unusedVariables false
set_option linter.unusedSimpArgs false
namespace Go.Proofs.Ytbphhdmnfepbnaa.Lab
open Go.RowKit
theorem keep_at {b : Bool} {ns : List ByteArray} {l : List Lb} {j : Nat} (hj : j < l.length) (h : hasB ns l[j].n = b) :
    ∃ hi : (keepL b ns (l.take j)).length < (keepL b ns l).length, (keepL b ns l)[(keepL b ns (l.take j)).length] = l[j] := by
  have e : keepL b ns l = keepL b ns (l.take j) ++ l[j] :: keepL b ns (l.drop (j + 1)) := by
    have h1 : l = l.take j ++ l[j] :: l.drop (j + 1) := by rw [← drop_at hj, List.take_append_drop]
    have h2 : keepL b ns (l.take j ++ l[j] :: l.drop (j + 1)) = keepL b ns (l.take j) ++ l[j] :: keepL b ns (l.drop (j + 1)) := by
      unfold keepL
      rw [List.filter_append, List.filter_cons, if_pos (by simp [h])]
    rw [← h2, ← h1]
  have hlt : (keepL b ns (l.take j)).length < (keepL b ns l).length := by rw [e, List.length_append, List.length_cons]; omega
  refine ⟨hlt, ?_⟩
  have h3 : (keepL b ns l)[(keepL b ns (l.take j)).length]? = some l[j] := by
    rw [e, List.getElem?_append_right (Nat.le_refl _), Nat.sub_self]
    rfl
  rw [List.getElem?_eq_getElem hlt] at h3
  exact Option.some.inj h3
theorem leS_false {a b : ByteArray} : leS a b = false ↔ Op.bytesLess b.toList a.toList = true := by
  unfold leS
  rw [Bool.or_eq_false_iff, beq_eq_false_iff_ne]
  constructor
  · intro ⟨h1, h2⟩
    cases h : Op.bytesLess b.toList a.toList with
    | true => rfl
    | false => exact absurd (bl_total _ _ h1 h) h2
  · intro h
    exact ⟨bl_asym h, fun e => by rw [e, bl_irr] at h; cases h⟩
theorem chk_filter (p : Lb → Bool) : ∀ (l : List Lb) (o o' : Option ByteArray), chkL o l = 0 → (∀ x, leP x o = false → leP x o' = false) → chkL o' (l.filter p) = 0
  | [], _, _, _, _ => rfl
  | x :: r, o, o', h, ho => by
    obtain ⟨h1, h2, h3, h4, h5⟩ := chkL_cons h
    have h6 := ho _ h4
    rw [List.filter_cons]
    split
    · exact chkL_mk h1 h2 h3 h6 (chk_filter p r _ _ h5 fun _ h => h)
    · refine chk_filter p r _ _ h5 fun y hy => ?_
      cases o' with
      | none => rfl
      | some c =>
        rw [leP, leS_false] at h6 hy ⊢
        exact bl_trans _ _ _ h6 hy
theorem chk_len {l : List Lb} (h : chk l = 0) : l.length ≤ 16 ∧ chkL none l = 0 := by
  unfold chk at h
  split at h
  · exact absurd h (by decide)
  · exact ⟨by omega, h⟩
theorem chk_of {l : List Lb} (h : l.length ≤ 16) (h2 : chkL none l = 0) : chk l = 0 := by unfold chk; rw [if_neg (by omega), h2]
theorem chk_keep {l : List Lb} (b : Bool) (ns : List ByteArray) (h : chk l = 0) : chk (keepL b ns l) = 0 := by
  obtain ⟨h1, h2⟩ := chk_len h
  exact chk_of (Nat.le_trans (keepL_len b ns l) h1) (chk_filter _ l none none h2 fun _ h => h)
end Go.Proofs.Ytbphhdmnfepbnaa.Lab
