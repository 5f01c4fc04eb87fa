/- Layer 11: what the program and the reference answer, as the laws ask. -/
import Derived.Test.YtobipbedkkmlcaaLa
import Derived.Test.YtobipbedkkmlcaaTaL
import Derived.Test.YtobipbedkkmlcaaSsA
set_option maxRecDepth 100000
set_option linter.unusedVariables false
set_option linter.unusedSimpArgs false
namespace Go.Proofs.Ytobipbedkkmlcaa.Sr
open Go.RowKit
/-- A list of samples as it lies, with all that is known of its slice. -/
structure LF (w : World) (A : Option Addr) (c : Nat) (l : List S) : Prop where
  ls : LS w w.heap.size A l
  le : l.length ≤ c
  max : c ≤ maxLen
  af : (A = none ∧ c = 0) ∨ ∃ b off, A = some ⟨b, off, none⟩
theorem LF.up {w W : World} {A : Option Addr} {c : Nat} {l : List S} (h : LF w A c l) (hb : Below w.heap.size w W) : LF W A c l := ⟨h.ls.up hb, h.le, h.max, h.af⟩
theorem OwnS.lf {w : World} {B : Nat} {v : Value} {l : List S} (h : OwnS w B v l) : ∃ A c, v = .slice A l.length c ∧ LF w A c l := by
  obtain ⟨A, c, e, hl⟩ := h.form
  subst e
  rcases id h.2 with ⟨e, h0⟩ | ⟨g, cap, cur, e, h1, h2, h3, h4, h5⟩
  · injection e with e1 e2 e3
    subst e1 e3
    exact ⟨none, 0, rfl, hl, by omega, by unfold maxLen; omega, .inl ⟨rfl, rfl⟩⟩
  · injection e with e1 e2 e3
    subst e1 e3
    exact ⟨_, _, rfl, hl, h3, h4, .inr ⟨g, 0, rfl⟩⟩
/-- A list is handed back; a list and an error. -/
def Out (r : List S) (w : World) (e : Ending) (w' : World) : Prop := ∃ A c, e = .returned (.slice A r.length c) ∧ LF w' A c r ∧ Below w.heap.size w w'
def Out2 (r : List S × Nat) (w : World) (e : Ending) (w' : World) : Prop := ∃ A c, e = .returned (.tuple #[.slice A r.1.length c, .int .i64 (r.2 : Int)]) ∧ LF w' A c r.1 ∧ Below w.heap.size w w'
theorem OwnPost.out {r : List S} {w : World} {e : Ending} {w' : World} (h : OwnPost r w e w') : Out r w e w' := by
  obtain ⟨v, he, ho, hb⟩ := h
  obtain ⟨A, c, rfl, hl⟩ := ho.lf
  exact ⟨A, c, he, hl, hb⟩
theorem OwnPost2.out {r : List S × Nat} {w : World} {e : Ending} {w' : World} (h : OwnPost2 r w e w') : Out2 r w e w' := by
  obtain ⟨v, he, ho, hb⟩ := h
  obtain ⟨A, c, rfl, hl⟩ := ho.lf
  exact ⟨A, c, he, hl, hb⟩
section
variable {A B : Option Addr} {c d : Nat} {l m : List S} {W : World}
theorem gCheck (kind : Int) (hl : l.length ≤ 1000) (h : LF W A c l) : Calls Try.prog 12 #[.int .i64 kind, .slice A l.length c] W fun e w' => e = .returned (.int .i64 (chk kind l : Nat)) ∧ Below W.heap.size W w' := pCheck_any kind l (by omega) A c W h.ls
theorem rCheck (kind : Int) (hl : l.length ≤ 1000) (h : LF W A c l) : Calls Try.prog 13 #[.int .i64 kind, .slice A l.length c] W fun e w' => e = .returned (.int .i64 (chk kind l : Nat)) ∧ Below W.heap.size W w' := check_any kind l (by omega) A c W h.ls
theorem rValid (hl : l.length ≤ 1000) (h : LF W A c l) : Calls Try.prog 28 #[.slice A l.length c] W fun e w' => e = .returned (.bool (decide (chk 1 l = 0))) ∧ Below W.heap.size W w' := valid_any l (by omega) A c W h.ls
theorem gSlice (f t : Int) (hl : l.length ≤ 1000) (h : LF W A c l) : Calls Try.prog 15 #[.slice A l.length c, .int .i64 f, .int .i64 t] W (Out (slcL l f t) W) := (pSlice_any l (by omega) A c f t W h.ls).mono fun _ _ h => h.out
theorem gInc (hl : l.length ≤ 1000) (h : LF W A c l) : Calls Try.prog 17 #[.slice A l.length c] W fun e w' => e = .returned (.int .i64 (incO l)) ∧ Below W.heap.size W w' := pIncrease_any l (by omega) A c W h.ls
theorem gRst (hl : l.length ≤ 1000) (h : LF W A c l) : Calls Try.prog 19 #[.slice A l.length c] W fun e w' => e = .returned (.int .i64 (rstO l : Nat)) ∧ Below W.heap.size W w' := pResets_any l (by omega) A c W h.ls
theorem gInsert (x : S) (hl : l.length ≤ 1000) (h : LF W A c l) : Calls Try.prog 21 #[.slice A l.length c, smpV x] W (Out2 (insO l x) W) := (pInsert_any l (by omega) A c h.le h.af x W h.ls).mono fun _ _ h => h.out
theorem rInsert (x : S) (hl : l.length ≤ 1000) (h : LF W A c l) : Calls Try.prog 22 #[.slice A l.length c, smpV x] W (Out2 (insO l x) W) := (refInsert_any l (by omega) A c h.le h.af x W h.ls).mono fun _ _ h => h.out
theorem gRemove (t : Int) (hl : l.length ≤ 1000) (h : LF W A c l) : Calls Try.prog 23 #[.slice A l.length c, .int .i64 t] W (Out2 (remO l t) W) := (pRemove_any l (by omega) A c h.le h.max t W h.ls).mono fun _ _ h => h.out
theorem rRemove (t : Int) (hl : l.length ≤ 1000) (h : LF W A c l) : Calls Try.prog 24 #[.slice A l.length c, .int .i64 t] W (Out2 (remO l t) W) := (refRemove_any l (by omega) A c h.le h.max t W h.ls).mono fun _ _ h => h.out
theorem gMerge (hl : l.length ≤ 1000) (hm : m.length ≤ 1000) (h : LF W A c l) (k : LF W B d m) : Calls Try.prog 25 #[.slice A l.length c, .slice B m.length d] W (Out2 (mrgO l m) W) := (pMerge_any l m (by omega) (by omega) A B c d W h.ls k.ls).mono fun _ _ h => h.out
theorem gSame (hl : l.length ≤ 1000) (hm : m.length ≤ 1000) (h : LF W A c l) (k : LF W B d m) : Calls Try.prog 14 #[.slice A l.length c, .slice B m.length d] W fun e w' => e = .returned (.bool (decide (l = m))) ∧ Below W.heap.size W w' :=
  (same_any l m (by omega) (by omega) A B c d _ _ W h.ls k.ls).mono fun _ _ ⟨h1, n, h2⟩ => ⟨h1, by rw [h2]; exact below_drewN (Below.refl _ _) n⟩
theorem gSameT (hl : l.length ≤ 1000) (h : LF W A c l) (k : LF W B d l) : Calls Try.prog 14 #[.slice A l.length c, .slice B l.length d] W fun e w' => e = .returned (.bool true) ∧ Below W.heap.size W w' := same_true l (by omega) A B c d W h.ls k.ls
end
theorem check_walk2 (kind : Int) (A : Option Addr) (c : Nat) (l : List S) (f t : Int) (w : World) (hA : LF w A c l) :
    Calls Try.prog 3 #[.int .i64 kind, .slice A l.length c, .agg #[.int .i64 f, .int .i64 t]] w fun e w' => e = .returned (.bool true) ∧ Below w.heap.size w w' := check_walk kind A c l f t w hA.ls
theorem remO_len (l : List S) (t : Int) : (remO l t).1.length ≤ l.length := by
  unfold remO
  split
  · simp
  · split
    · exact (rem_sub l t).length_le
    · simp
theorem insO_len (l : List S) (x : S) : (insO l x).1.length ≤ l.length + 1 := by
  rcases insO_cases l x with ⟨h, _⟩ | ⟨h, _⟩
  · rw [h]; simp
  · rw [h, ins_len]; exact Nat.le_refl _
theorem mrgO_len (a b : List S) : (mrgO a b).1.length ≤ a.length + b.length := by
  unfold mrgO
  split
  · simp
  · rename_i h
    have ha := chk_asc (show chk 1 a = 0 by omega)
    have hb := chk_asc (show chk 1 b = 0 by omega)
    split
    · simp
    · rename_i r hr
      have := (mrg_some ha hb hr).2.2
      split
      · simp
      · exact this
end Go.Proofs.Ytobipbedkkmlcaa.Sr
