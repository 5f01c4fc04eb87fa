/- Layer 10: bytes of the call's own that a conversion of a string has laid (its row bears a mark behind its last cell), and strings appended to them. -/
import Derived.Lib.ConvBytes
import Derived.Lib.AppendStr
import Derived.Laws.CopyRow
import Derived.Test.YtpinmmmbmhfmiaaDtC
set_option linter.unusedVariables false
set_option linter.unusedSimpArgs false
namespace Go.Proofs.Ytpinmmmbmhfmiaa.Dt
open Go.RowKit Dc
section
variable {P : Program}
/-- Cells are stored where the mark is not. -/
theorem store_mark (g o cap : Nat) (t : TypeId) (vs : List Value) : ∀ (i : Nat) (cur : Array Value) (w : World), w.heap[g]? = some (.cells cur t (cap, cap + 1)) → cur.size = cap → o + i + vs.length ≤ cap → (∀ v ∈ vs, v.oneCell' = true) →
    (storeCells ⟨g, o, none⟩ vs i).run P w = .ok () (w.setRow g (cur.toList.take (o + i) ++ vs ++ cur.toList.drop (o + i + vs.length)).toArray) := by
  induction vs with
  | nil =>
    intro i cur w hg _ _ _
    have e : (cur.toList.take (o + i) ++ [] ++ cur.toList.drop (o + i + ([] : List Value).length)).toArray = cur := by simp
    rw [e, setRow_self w g cur t _ hg]
    rfl
  | cons v rest ih =>
    intro i cur w hg hc hl h1
    rw [List.length_cons] at hl
    have hi : o + i < cur.size := by omega
    have ha : (⟨g, o, none⟩ : Addr).add i = ⟨g, o + i, none⟩ := add_lit g o i
    have c1 : w.cell? ⟨g, o + i, none⟩ = some cur[o + i] := by simp [World.cell?, hg, hi]
    have c2 : w.frozen? ⟨g, o + i, none⟩ = false := by
      simp only [World.frozen?, hg, Bool.and_eq_false_iff, decide_eq_false_iff_not]
      left
      omega
    have s1 : (store ((⟨g, o, none⟩ : Addr).add i) v).run P w = .ok () (w.setRow g (cur.setIfInBounds (o + i) v)) := by
      rw [ha, run_store P w _ v _ (h1 v (List.mem_cons_self ..)), c1]
      simp [c2, setCell_eq_setRow w g (o + i) cur t _ v hg]
    have s2 := ih (i + 1) (cur.setIfInBounds (o + i) v) (w.setRow g (cur.setIfInBounds (o + i) v)) (setRow_heap w g cur _ t _ hg) (by simpa using hc) (by omega) (fun x hx => h1 x (List.mem_cons_of_mem _ hx))
    simp only [storeCells, Sem.run_bind, s1, Result.andThen_ok, s2, setRow_setRow]
    congr 3
    have hcl : cur.toList.length = cap := by rw [Array.length_toList, hc]
    have e := list_seg_step cur.toList (o + i) v rest (by omega)
    simpa [Array.toList_setIfInBounds, Nat.add_assoc] using e
end
/-- Bytes of the call's own, marked or not. -/
def OwnG (B : Nat) (w : World) (v : Value) (l : List UInt8) : Prop := OwnBy B w v l ∨
  ∃ g cap cur, v = .slice (some ⟨g, 0, none⟩) l.length cap ∧ B ≤ g ∧ w.heap[g]? = some (.cells cur 5 (cap, cap + 1)) ∧ l.length ≤ cap ∧ cap ≤ maxLen ∧ cur.size = cap ∧ cur.toList.take l.length = Lib.byteCells l
theorem OwnG.lt {B : Nat} {w : World} {v : Value} {l : List UInt8} (h : OwnG B w v l) : ∀ k, v.ownBlock = some k → B ≤ k ∧ k < w.heap.size := fun k hk => by
  rcases h with h | ⟨g, cap, cur, rfl, hb, hg, _⟩
  · exact World.ownsRow.lt h k hk
  · obtain rfl : g = k := by simpa [Value.ownBlock] using hk
    exact ⟨hb, (Array.getElem?_eq_some_iff.1 hg).1⟩
theorem OwnG.step {B : Nat} {w w' : World} {v : Value} {l : List UInt8} (h : OwnG B w v l) (hb : Below w.heap.size w w') : OwnG B w' v l := by
  rcases h with h | ⟨g, cap, cur, e, h1, hg, hr⟩
  · exact .inl (OwnBy.step h hb)
  · exact .inr ⟨g, cap, cur, e, h1, (hb.block g (Array.getElem?_eq_some_iff.1 hg).1).trans hg, hr⟩
theorem OwnG.form {B : Nat} {w : World} {v : Value} {l : List UInt8} (h : OwnG B w v l) : ∃ A c, v = .slice A l.length c := by
  rcases h with h | ⟨g, cap, cur, e, _⟩
  · exact own_form h
  · exact ⟨_, _, e⟩
theorem lit_cells (u : List UInt8) : Lib.strCells (⟨u.toArray⟩ : ByteArray) = Lib.byteCells u := by
  unfold Lib.strCells Lib.byteCells
  rfl
set_option maxHeartbeats 1000000 in
theorem run_app_str (B : Nat) (ty : TypeId) (w : World) (v : Value) (l u : List UInt8) (h : OwnG B w v l) (hB : B ≤ w.heap.size) (hl : l.length + u.length ≤ 100000000) :
    ∃ v' w', (Builtin.append_ #[49, 9] ty #[v, .string ⟨u.toArray⟩]).run Try.prog w = .ok v' w' ∧ OwnG B w' v' (l ++ u) ∧ w.grownBy w' v.ownBlock := by
  obtain ⟨i0, hi, hz0, hz1, hz2⟩ := info_parts infoB
  have hus : (⟨u.toArray⟩ : ByteArray).size = u.length := by show u.toArray.size = _; simp
  rcases h with h | ⟨g, cap, cur, rfl, hbg, hg, hnc, hcm, hcs, htake⟩
  · obtain ⟨v', w', h1, h2, h3, _⟩ := Lib.run_append_own_string (P := Try.prog) w B 49 9 ty 5 i0 Try.underlying49 Try.underlying9 hi hz0 hz1 hz2 v l.length _ h ⟨u.toArray⟩ (by rw [hus]; simp only [maxLen]; omega) (by rw [hus]; omega) hB
    refine ⟨v', w', h1, .inl ?_, h3⟩
    rw [lit_cells, byte_app, hus, ← List.length_append] at h2
    exact h2
  · have hlc : (Lib.byteCells l).length = l.length := by simp [Lib.byteCells]
    have hsc : (Lib.strCells (⟨u.toArray⟩ : ByteArray)).length = u.length := by rw [lit_cells]; simp [Lib.byteCells]
    by_cases hroom : l.length + u.length ≤ cap
    · have hf := Lib.run_firstCells_string (P := Try.prog) w 1 ⟨u.toArray⟩
      have hst := store_mark (P := Try.prog) g l.length cap 5 (Lib.strCells (⟨u.toArray⟩ : ByteArray)) 0 cur w hg hcs (by rw [hsc]; omega) (Lib.strCells_oneCell _)
      rw [Nat.add_zero, hsc] at hst
      rw [hus] at hf
      have hr : (Builtin.append_ #[49, 9] ty #[.slice (some ⟨g, 0, none⟩) l.length cap, .string ⟨u.toArray⟩]).run Try.prog w = .ok (.slice (some ⟨g, 0, none⟩) (l.length + u.length) cap) (w.setRow g (cur.toList.take l.length ++ Lib.strCells (⟨u.toArray⟩ : ByteArray) ++ cur.toList.drop (l.length + u.length)).toArray) := by
        simp [Builtin.append_, run_underlying Try.underlying49, run_underlying Try.underlying9, sizeOf, typeInfo, hi, hz1, Builtin.lenOf, hus, hroom, hf, Addr.add_lit, hst]
      refine ⟨_, _, hr, .inr ⟨g, cap, _, by rw [List.length_append], hbg, setRow_heap w g cur _ _ _ hg, by rw [List.length_append]; exact hroom, hcm, ?_, ?_⟩, ⟨rfl, rfl, rfl, by simp [World.setRow], fun k _ hk => setRow_other w g k _ (fun e => hk (by simp [Value.ownBlock, e]))⟩⟩
      · simp only [List.size_toArray, List.length_append, List.length_take, List.length_drop, Array.length_toList, hsc]
        omega
      · rw [htake, lit_cells, byte_app]
        have e : (Lib.byteCells (l ++ u) ++ cur.toList.drop (l.length + u.length)).toArray.toList = Lib.byteCells (l ++ u) ++ cur.toList.drop (l.length + u.length) := by simp
        rw [e, List.take_left' (by simp [Lib.byteCells])]
    · have holds : ∀ j x, (Lib.byteCells l)[j]? = some x → w.cell? ((⟨g, 0, none⟩ : Addr).add j) = some x := fun j x hx => by
        rw [add_lit, Nat.zero_add]
        rw [← htake, List.getElem?_take] at hx
        split at hx
        · simpa [World.cell?, hg] using hx
        · cases hx
      have hr := Lib.run_append_grow_string (P := Try.prog) w 49 9 ty 5 i0 (.int .u8 0) Try.underlying49 Try.underlying9 hi hz0 ⟨g, 0, none⟩ l.length cap (Lib.byteCells l) (by rw [hz1, hlc, Nat.mul_one]) holds ⟨u.toArray⟩ (by rw [hus]; omega) (by rw [hus]; omega) (by rw [hz2]; exact growslice_fits (by rw [hus]; omega) (by rw [hus]; omega))
      have hge := grownCap_ge w (l.length + (⟨u.toArray⟩ : ByteArray).size) cap 5
      have hcm2 : grownCap w (l.length + (⟨u.toArray⟩ : ByteArray).size) cap 5 ≤ maxLen := grownCap_le_maxLen w _ cap _ (by rw [hus]; simp only [maxLen]; omega)
      have hge2 := hge
      rw [hus] at hge2
      have hz9 : (Value.int IntKind.u8 0).cells.size = 1 := rfl
      refine ⟨_, _, hr, .inl ⟨by simp [Lib.byteCells], .inr ⟨w.heap.size, _, _, by rw [List.length_append, ← hus], hB, heap_alloc_new w.drew _, by rw [List.length_append, ← hus]; exact hge, hcm2, ?_, ?_⟩⟩, ⟨rfl, rfl, rfl, by simp, fun k hk _ => Below.heap_alloc w.drew _ k hk⟩⟩
      · simp only [Array.size_append, List.size_toArray, size_zeroCells, hz9, hlc, hsc, hus]
        omega
      · simp only [Array.toList_append, List.append_assoc]
        rw [← List.append_assoc, lit_cells, byte_app, Nat.mul_one]
        exact List.take_left' (by simp [Lib.byteCells])
end Go.Proofs.Ytpinmmmbmhfmiaa.Dt
