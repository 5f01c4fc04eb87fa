/- Layer 12: the map of counts. -/
import Derived.Maps.Own
import Derived.Maps.OwnSet
import Derived.Maps.Views
import Derived.Maps.Keyed
import Derived.Lib.SlKeysI
import Derived.Test.YtffnopdpndpngaaMg
set_option linter.unusedVariables false
set_option linter.unusedSimpArgs false
namespace Go.Proofs.Ytffnopdpndpngaa.Lh
open Go.RowKit Go.Maps
theorem key_iff {m : List B} (hp : Pos m) {j : Int} : j ∈ m.map (·.1) ↔ 0 < cf m j := by
  constructor
  · intro h
    obtain ⟨b, hb, e⟩ := List.mem_map.1 h
    have h1 := cf_mem hp hb
    have h2 := hp b hb
    rw [e] at h1
    omega
  · intro h
    obtain ⟨b, hb, e⟩ := cf_pos h
    exact List.mem_map.2 ⟨b, hb, e⟩
/-- The map at b counts what the list m counts. -/
def CntM (w : World) (b k : Nat) (m : List B) : Prop :=
  ∃ D : DataW Unit, w.ownsMap Try.prog 3 (plainElem Try.prog 3) b k D ∧ (Asc m ∧ Pos m) ∧ ∀ j : Int, D.atKey (.int .i64 j) (.lit (.int .i64 0)) = .lit (.int .i64 (cf m j)) ∧ (Maps.has D (.int .i64 j) = true ↔ 0 < cf m j)
theorem CntM.kept {w w' : World} {b k : Nat} {m : List B} {row : Option Nat} (h : CntM w b k m) (hg : w.grownBy w' row) (hne : some b ≠ row) : CntM w' b k m := by
  obtain ⟨D, h1, h2⟩ := h
  exact ⟨D, h1.kept hg hne, h2⟩
theorem CntM.same {w w' : World} {b k : Nat} {m : List B} (h : CntM w b k m) (he : w'.heap[b]? = w.heap[b]?) : CntM w' b k m := by
  obtain ⟨D, ⟨es, clock, hb, F, hs, hD⟩, h2⟩ := h
  exact ⟨D, ⟨es, clock, he.trans hb, F, hs, hD⟩, h2⟩
theorem CntM.lt {w : World} {b k : Nat} {m : List B} (h : CntM w b k m) : b < w.heap.size := by
  obtain ⟨D, h1, _⟩ := h
  exact h1.lt
theorem CntM.more {w : World} {b k k' : Nat} {m : List B} (h : CntM w b k m) (hk : k ≤ k') : CntM w b k' m := by
  obtain ⟨D, h1, h2⟩ := h
  exact ⟨D, h1.mono hk, h2⟩
theorem CntM.new (w : World) : CntM (w.alloc (.map #[] 0)) w.heap.size 0 [] := ⟨_, World.ownsMap_made _ _ _ _, ⟨asc_nil, pos_nil⟩, fun j => ⟨rfl, by
  constructor
  · intro h; cases h
  · intro h; cases h⟩⟩
theorem intWf {j : Int} (h : inI j) : (Lit.int .i64 j).wf = true := WalkArith.wf_i64 h
/-- The look-up of a key. -/
theorem CntM.look {w : World} {b k : Nat} {m : List B} (h : CntM w b k m) {j : Int} (hj : inI j) : (Instr.lookup 86 (.map (some b)) (.int .i64 j) false).run Try.prog w = .ok (.int .i64 (cf m j)) w := by
  obtain ⟨D, h1, _, h2⟩ := h
  obtain ⟨c, hrun, hat, _⟩ := h1.lookup_int (Maps.int_keyed Try.underlying3) Try.underlying86 Try.underlying3 (Try.zeroValue3 _) (Maps.keyOf_int_mk Try.underlying3 (intWf hj))
  rw [(h2 j).1] at hat
  have e : cf m j = c := by simpa using hat
  rw [e]
  exact hrun
/-- A count more at a key. -/
theorem CntM.add {w : World} {b k : Nat} {m : List B} (h : CntM w b k m) (hk : k < maxLen) {j n : Int} (hj : inI j) (hn : 1 ≤ n) (hc : inI (cf m j + n)) : ∃ w', (Instr.mapUpdate 86 (.map (some b)) (.int .i64 j) (.int .i64 (cf m j + n))).run Try.prog w = .ok () w' ∧ CntM w' b (k + 1) (put j n m) ∧ w.grownBy w' (some b) := by
  obtain ⟨D, h1, ⟨ha, hp⟩, h2⟩ := h
  obtain ⟨w', hrun, r1, r2⟩ := h1.update (Maps.int_keyed Try.underlying3) Try.underlying86 hk (Maps.keyOf_int_mk Try.underlying3 (intWf hj)) (plainElem_int Try.underlying3 (intWf hc))
  refine ⟨w', hrun, ⟨_, r1, ⟨put_asc ha, put_pos hn hp⟩, fun i => ?_⟩, r2⟩
  have h0 := cf_nonneg (j := j) hp
  rw [cf_put]
  by_cases e : j = i
  · subst e
    rw [if_pos rfl]
    refine ⟨atKey_put_same (k := .int .i64 j) h1.isMap trivial _ _, ?_⟩
    rw [has_put_same (k := .int .i64 j) h1.isMap trivial]
    constructor
    · intro _; omega
    · intro _; rfl
  · rw [if_neg e, Int.add_zero]
    have hne : (Lit.int .i64 i) ≠ Lit.int .i64 j := fun x => e (by simpa using x.symm)
    rw [atKey_put_other hne, has_put_other hne]
    exact h2 i
theorem asc_keys {m : List B} (h : Asc m) : (m.map (·.1)).Pairwise (fun x y => x < y) := List.pairwise_map.2 h
theorem CntM.perm {w : World} {b k : Nat} {m : List B} {D : DataW Unit} (h1 : w.ownsMap Try.prog 3 (plainElem Try.prog 3) b k D) (ha : Asc m) (hp : Pos m) (h2 : ∀ j : Int, Maps.has D (.int .i64 j) = true ↔ 0 < cf m j) : (m.map (·.1)).Perm (intKeys D) := by
  refine CollectedI.perm (left := fun _ => false) ⟨(asc_keys ha).imp (fun h => Int.ne_of_lt h), fun x => ?_⟩ h1 (Maps.int_keyed Try.underlying3) Try.underlying3 (fun _ => rfl)
  rw [key_iff hp, h2 x]
  simp
theorem CntM.size {w : World} {b k : Nat} {m : List B} {D : DataW Unit} (h1 : w.ownsMap Try.prog 3 (plainElem Try.prog 3) b k D) (ha : Asc m) (hp : Pos m) (h2 : ∀ j : Int, Maps.has D (.int .i64 j) = true ↔ 0 < cf m j) : Maps.size D = m.length := by
  have e := (CntM.perm h1 ha hp h2).length_eq
  rw [List.length_map] at e
  rw [e]
  obtain ⟨es, rfl⟩ := h1.isMap
  simp [Maps.size, intKeys]
theorem sort_keys {m : List B} (ha : Asc m) {ss : List Int} (h : ss.Perm (m.map (·.1))) : ss.mergeSort (fun x y => decide (x ≤ y)) = m.map (·.1) := by
  rw [mergeSort_of_perm_i h]
  refine List.mergeSort_of_pairwise ((asc_keys ha).imp fun h => ?_)
  simp only [leI, decide_eq_true_eq]
  omega
theorem CntM.len {w : World} {b k : Nat} {m : List B} (h : CntM w b k m) (ty : TypeId) : (Builtin.len_ #[86] ty #[.map (some b)]).run Try.prog w = .ok (.int .i64 (m.length : Nat)) w := by
  obtain ⟨D, h1, ⟨ha, hp⟩, h2⟩ := h
  have e := h1.len Try.underlying86 ty
  rw [CntM.size h1 ha hp fun j => (h2 j).2] at e
  exact e
end Go.Proofs.Ytffnopdpndpngaa.Lh
