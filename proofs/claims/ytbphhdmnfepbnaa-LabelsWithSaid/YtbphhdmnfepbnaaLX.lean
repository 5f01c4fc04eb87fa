/- Layer 5: append onto the row of a conversion: its block bears a mark behind its last cell. -/
import Derived.Test.YtbphhdmnfepbnaaLW
set_option linter.unusedVariables false
set_option linter.unusedSimpArgs false
namespace Go.Proofs.Ytbphhdmnfepbnaa.Lab
open Go.RowKit
/-- Stores into a row whose mark lies behind it. -/
theorem store_tail (P : Program) (g o : Nat) (t : TypeId) (fz : Nat × Nat) : ∀ (vs : List Value) (i : Nat) (cur : Array Value) (w : World), w.heap[g]? = some (.cells cur t fz) → cur.size ≤ fz.1 → o + i + vs.length ≤ cur.size → (∀ v ∈ vs, v.oneCell' = true) →
    (storeCells ⟨g, o, none⟩ vs i).run P w = .ok () (w.setRow g (cur.toList.take (o + i) ++ vs ++ cur.toList.drop (o + i + vs.length)).toArray)
  | [], i, cur, w, hg, _, _, _ => by
    simp only [storeCells, List.append_nil, List.length_nil, Nat.add_zero, List.take_append_drop, Array.toArray_toList]
    rw [setRow_self w g cur t fz hg]
    rfl
  | v :: rest, i, cur, w, hg, hfz, hl, h1 => by
    have hi : o + i < cur.size := by simp at hl; omega
    have hadd : (⟨g, o, none⟩ : Addr).add i = ⟨g, o + i, none⟩ := by unfold Addr.add; split <;> simp_all
    have hcell : w.cell? ⟨g, o + i, none⟩ = some cur[o + i] := by simp [World.cell?, hg, hi]
    have hfro : w.frozen? ⟨g, o + i, none⟩ = false := by
      obtain ⟨lo, hi'⟩ := fz
      simp only [World.frozen?, hg, Bool.and_eq_false_iff, decide_eq_false_iff_not]
      left
      simp only at hfz
      omega
    have hst : (store ((⟨g, o, none⟩ : Addr).add i) v).run P w = .ok () (w.setRow g (cur.setIfInBounds (o + i) v)) := by
      rw [hadd, run_store P w _ v _ (h1 v (by simp)), hcell]
      simp [hfro, setCell_eq_setRow w g (o + i) cur t fz v hg]
    have ih := store_tail P g o t fz rest (i + 1) (cur.setIfInBounds (o + i) v) (w.setRow g (cur.setIfInBounds (o + i) v)) (setRow_heap w g cur _ t _ hg) (by simp; exact hfz) (by simp at hl ⊢; omega) (fun x hx => h1 x (by simp [hx]))
    simp only [storeCells, Sem.run_bind, hst, Result.andThen_ok, ih, setRow_setRow]
    congr 3
    have e := list_seg_step cur.toList (o + i) v rest (by simp at hl ⊢; omega)
    simpa [Array.toList_setIfInBounds, Nat.add_assoc] using e
/-- v owns the bytes l; its row may bear a mark behind its last cell. -/
def OwnK (w : World) (B : Nat) (v : Value) (l : List UInt8) : Prop :=
  ∃ g cap cur fz, v = .slice (some ⟨g, 0, none⟩) l.length cap ∧ B ≤ g ∧ w.heap[g]? = some (.cells cur 5 fz) ∧ cur.size ≤ fz.1 ∧ l.length ≤ cap ∧ cap ≤ maxLen ∧ cur.size = cap ∧ cur.toList.take l.length = Lib.byteCells l
/-- Either kind. -/
def OwnE (w : World) (B : Nat) (v : Value) (l : List UInt8) : Prop := OwnB w B v l ∨ OwnK w B v l
theorem OwnE.below {w w' : World} {B : Nat} {v : Value} {l : List UInt8} (h : OwnE w B v l) (hb : Below w.heap.size w w') : OwnE w' B v l := by
  rcases h with h | ⟨g, cap, cur, fz, hv, hg, hh, hr⟩
  · exact .inl (h.below hb)
  · exact .inr ⟨g, cap, cur, fz, hv, hg, (hb.block g (Array.getElem?_eq_some_iff.1 hh).1).trans hh, hr⟩
theorem OwnE.grown {w w' : World} {B : Nat} {v : Value} {l : List UInt8} {row : Option Nat} (h : OwnE w B v l) (hb : w.grownBy w' row) (hne : v.ownBlock ≠ row) : OwnE w' B v l := by
  rcases h with h | ⟨g, cap, cur, fz, hv, hg, hh, hr⟩
  · refine .inl ⟨h.1, ?_⟩
    rcases h.2 with h0 | ⟨g, cap, cur, e, h1, h2, h3⟩
    · exact .inl h0
    · subst e
      exact .inr ⟨g, cap, cur, rfl, h1, (hb.block g (Array.getElem?_eq_some_iff.1 h2).1 hne).trans h2, h3⟩
  · subst hv
    exact .inr ⟨g, cap, cur, fz, rfl, hg, (hb.block g (Array.getElem?_eq_some_iff.1 hh).1 hne).trans hh, hr⟩
theorem OwnE.lt {w : World} {B : Nat} {v : Value} {l : List UInt8} (h : OwnE w B v l) : ∀ g, v.ownBlock = some g → B ≤ g ∧ g < w.heap.size := fun k hk => by
  rcases h with h | ⟨g, cap, cur, fz, rfl, hg, hh, hr⟩
  · exact h.lt k hk
  · simp only [Value.ownBlock, Option.some.injEq] at hk
    subst hk
    exact ⟨hg, (Array.getElem?_eq_some_iff.1 hh).1⟩
/-- A block of another type is not its row. -/
theorem OwnE.ne {w : World} {B : Nat} {v : Value} {l : List UInt8} (h : OwnE w B v l) {g : Nat} {cs : Array Value} {fz : Nat × Nat} {t : TypeId} (hh : w.heap[g]? = some (.cells cs t fz)) (ht : t ≠ 5) : v.ownBlock ≠ some g := by
  intro e
  rcases h with h | ⟨g', cap, cur, fz', rfl, hg, hh', hr⟩
  · rcases h.2 with ⟨rfl, _⟩ | ⟨g', cap, cur, rfl, _, hh', _⟩
    · simp [Value.ownBlock] at e
    · have : g' = g := by simpa [Value.ownBlock] using e
      subst this
      rw [hh] at hh'
      simp at hh'
      exact ht hh'.2.1
  · have : g' = g := by simpa [Value.ownBlock] using e
    subst this
    rw [hh] at hh'
    simp at hh'
    exact ht hh'.2.1
theorem OwnK.cells {w : World} {g cap : Nat} {cur : Array Value} {fz : Nat × Nat} {l : List UInt8} (hh : w.heap[g]? = some (.cells cur 5 fz)) (ht : cur.toList.take l.length = Lib.byteCells l) : ∀ j u, (Lib.byteCells l)[j]? = some u → w.cell? ((⟨g, 0, none⟩ : Addr).add j) = some u := fun j u hu => by
  have e : (⟨g, 0, none⟩ : Addr).add j = ⟨g, j, none⟩ := by cases j <;> simp [Addr.add]
  rw [e, cell_of_row w g j cur 5 fz hh]
  rw [← ht, List.getElem?_take] at hu
  split at hu
  · simpa using hu
  · cases hu
theorem OwnE.conv {B : Nat} {W : World} {v : Value} {l : List UInt8} (h : OwnE W B v l) : ∃ A n cap, v = .slice A n cap ∧ (convert 47 9 (.slice A n cap)).run Try.prog W = .ok (.string ⟨l.toArray⟩) W := by
  rcases h with h | ⟨g, cap, cur, fz, rfl, hg, hh, _, _, _, _, ht⟩
  · exact h.conv
  · refine ⟨_, _, _, rfl, run_convert_bytes_back W 47 9 5 ⟨g, 0, none⟩ cap l Try.underlying47 Try.underlying5 Try.underlying9 fun j hj => ?_⟩
    exact OwnK.cells (cap := cap) hh ht j _ (by simp [Lib.byteCells, List.getElem?_eq_getElem hj])
theorem room_own {w : World} {B g cap : Nat} {cur : Array Value} {fz : Nat × Nat} {l m : List UInt8} (hg : B ≤ g) (hh : w.heap[g]? = some (.cells cur 5 fz)) (hfz : cur.size ≤ fz.1) (hc : cap ≤ maxLen) (hcs : cur.size = cap) (ht : cur.toList.take l.length = Lib.byteCells l) (hroom : l.length + m.length ≤ cap) :
    OwnK (w.setRow g (cur.toList.take l.length ++ Lib.byteCells m ++ cur.toList.drop (l.length + m.length)).toArray) B (.slice (some ⟨g, 0, none⟩) (l.length + m.length) cap) (l ++ m) ∧
    w.grownBy (w.setRow g (cur.toList.take l.length ++ Lib.byteCells m ++ cur.toList.drop (l.length + m.length)).toArray) (some g) := by
  have hsz : (cur.toList.take l.length ++ Lib.byteCells m ++ cur.toList.drop (l.length + m.length)).toArray.size = cur.size := by
    simp only [List.size_toArray, List.length_append, List.length_take, List.length_drop, Array.length_toList, Lib.byteCells_length]
    omega
  refine ⟨⟨g, cap, _, fz, by rw [List.length_append], hg, setRow_heap w g cur _ 5 _ hh, by rw [hsz]; exact hfz, by rw [List.length_append]; exact hroom, hc, by rw [hsz, hcs], ?_⟩, ⟨rfl, rfl, rfl, by simp, fun k _ hk => setRow_other w g k _ (fun e => hk (by rw [e]))⟩⟩
  rw [ht, ← Lib.byteCells_append, ← Lib.byteCells_length (l ++ m)]
  exact List.take_left
theorem run_append_E_string {w : World} {B : Nat} {v : Value} {l : List UInt8} (ty : TypeId) (h : OwnE w B v l) (s : ByteArray) (hl : l.length + s.size ≤ 100000000) (hB : B ≤ w.heap.size) :
    ∃ v' w', (Builtin.append_ #[47, 9] ty #[v, .string s]).run Try.prog w = .ok v' w' ∧ OwnE w' B v' (l ++ s.data.toList) ∧ w.grownBy w' v.ownBlock := by
  obtain ⟨i0, hi, hz0, hz1, hz2⟩ := info_parts info5
  have hsz : s.data.toList.length = s.size := Array.length_toList
  rcases h with h | ⟨g, cap, cur, fz, rfl, hg, hh, hfz, hlc, hc, hcs, ht⟩
  · obtain ⟨v', w', hr, h2, h3, _⟩ := run_append_M_string ty (.inl h) s hl hB
    rcases h2 with h2 | ⟨e, g, rfl, hg, hh⟩
    · exact ⟨v', w', hr, .inl h2, h3⟩
    · rw [e]
      exact ⟨_, w', hr, .inr ⟨g, 1, _, _, rfl, hg, hh, by simp, by simp, by unfold maxLen; omega, rfl, rfl⟩, h3⟩
  · by_cases hroom : l.length + s.size ≤ cap
    · have hf := Lib.run_firstCells_string (P := Try.prog) w 1 s
      have hst := store_tail Try.prog g l.length 5 fz (Lib.byteCells s.data.toList) 0 cur w hh hfz (by rw [Lib.byteCells_length]; omega) (Lib.strCells_oneCell s)
      simp only [Nat.add_zero, Lib.byteCells_length, hsz] at hst
      have hro := room_own (m := s.data.toList) hg hh hfz hc hcs ht (by omega)
      rw [hsz] at hro
      refine ⟨_, _, ?_, .inr hro.1, hro.2⟩
      rw [Lib.strCells_eq] at hf
      simp [Builtin.append_, run_underlying Try.underlying47, run_underlying Try.underlying9, sizeOf, typeInfo, hi, hz1, Builtin.lenOf, hroom, hf, Addr.add_lit, hst]
    · have hr := Lib.run_append_grow_string (P := Try.prog) w 47 9 ty 5 i0 (.int .u8 0) Try.underlying47 Try.underlying9 hi hz0 ⟨g, 0, none⟩ l.length cap (Lib.byteCells l) (by rw [hz1, Lib.byteCells_length, Nat.mul_one])
        (OwnK.cells (cap := cap) hh ht) s (by omega) (by omega) (by rw [hz2]; exact growslice_fits (by omega) (by omega))
      have hgr := grown_own w B hB l s.data.toList cap (by rw [hsz]; exact hl) (Value.ownBlock (.slice (some ⟨g, 0, none⟩) l.length cap))
      rw [hsz] at hgr
      exact ⟨_, _, hr, .inl hgr.1, hgr.2⟩
theorem run_append_E {w : World} {B : Nat} {v : Value} {l m : List UInt8} (ty : TypeId) (h : OwnE w B v l) (a : Addr) (c : Nat) (hm : 0 < m.length) (hnews : ∀ j u, (Lib.byteCells m)[j]? = some u → w.cell? (a.add j) = some u) (hl : l.length + m.length ≤ 100000000) (hB : B ≤ w.heap.size) :
    ∃ v' w', (Builtin.append_ #[47, 47] ty #[v, .slice (some a) m.length c]).run Try.prog w = .ok v' w' ∧ OwnE w' B v' (l ++ m) ∧ w.grownBy w' v.ownBlock := by
  obtain ⟨i0, hi, hz0, hz1, hz2⟩ := info_parts info5
  have h1 : ∀ u ∈ Lib.byteCells m, u.oneCell' = true := fun u hu => by
    simp only [Lib.byteCells, List.mem_map] at hu
    obtain ⟨b, _, rfl⟩ := hu
    rfl
  rcases h with h | ⟨g, cap, cur, fz, rfl, hg, hh, hfz, hlc, hc, hcs, ht⟩
  · obtain ⟨v', w', hr, h2, h3⟩ := run_append_M ty (.inl h) a c hm hnews hl hB
    exact ⟨v', w', hr, .inl h2, h3⟩
  · by_cases hroom : l.length + m.length ≤ cap
    · have hf := run_firstCells_some (P := Try.prog) w 1 m.length a m.length c (Lib.byteCells m) (by rw [Lib.byteCells_length, Nat.mul_one]) hnews
      have hst := store_tail Try.prog g l.length 5 fz (Lib.byteCells m) 0 cur w hh hfz (by rw [Lib.byteCells_length]; omega) h1
      simp only [Nat.add_zero, Lib.byteCells_length] at hst
      have hro := room_own (m := m) hg hh hfz hc hcs ht hroom
      refine ⟨_, _, ?_, .inr hro.1, hro.2⟩
      simp [Builtin.append_, run_underlying Try.underlying47, sizeOf, typeInfo, hi, hz1, Builtin.lenOf, hroom, hf, Addr.add_lit, hst]
    · have hr := run_append_grow (P := Try.prog) w 47 ty 5 i0 (.int .u8 0) Try.underlying47 hi hz0 ⟨g, 0, none⟩ l.length cap (Lib.byteCells l) (by rw [hz1, Lib.byteCells_length, Nat.mul_one])
        (OwnK.cells (cap := cap) hh ht) a m.length c (Lib.byteCells m) (by rw [hz1, Lib.byteCells_length, Nat.mul_one]) hnews (by omega) (by omega) (by rw [hz2]; exact growslice_fits (by omega) (by omega))
      have hgr := grown_own w B hB l m cap hl (Value.ownBlock (.slice (some ⟨g, 0, none⟩) l.length cap))
      exact ⟨_, _, hr, .inl hgr.1, hgr.2⟩
theorem wpList_append_E_string {w : World} {ops : Array Oper} {rest : List Oper} {o : Oper} {a : Act} {Q : Exit → Act → World → Prop} (hgd : o.guard = none) (sl x : Operand)
    (ho : o.op = .call { callee := .builtin .append, args := #[sl, x], argTypes := #[47, 9] }) (B : Nat) (v : Value) (l : List UInt8) (hs : a.eval sl = v) (hown : OwnE w B v l) (s : ByteArray) (hx : a.eval x = .string s)
    (hl : l.length + s.size ≤ 100000000) (hB : B ≤ w.heap.size)
    (h : ∀ v' w', OwnE w' B v' (l ++ s.data.toList) → w.grownBy w' v.ownBlock → wpList Try.prog ops Q rest (a.put o.dst v') w') : wpList Try.prog ops Q (o :: rest) a w := by
  refine wpList_plain hgd fun K hK => ?_
  obtain ⟨v', w', hr, h2, h3⟩ := run_append_E_string o.type hown s hl hB
  unfold Oper.wp execOp
  simp only [ho, resolve, invoke, builtin, Sem.run_bind, Sem.run_pure, Result.andThen_ok, List.map_toArray, List.map_cons, List.map_nil, hs, hx, hr]
  exact hK _ _ (h v' w' h2 h3)
theorem wpList_append_E {w : World} {ops : Array Oper} {rest : List Oper} {o : Oper} {a : Act} {Q : Exit → Act → World → Prop} (hgd : o.guard = none) (sl x : Operand)
    (ho : o.op = .call { callee := .builtin .append, args := #[sl, x], argTypes := #[47, 47] }) (B : Nat) (v : Value) (l : List UInt8) (hs : a.eval sl = v) (hown : OwnE w B v l) (ad : Addr) (c : Nat) (m : List UInt8) (n : Nat) (hx : a.eval x = .slice (some ad) n c) (hn : n = m.length) (hm : 0 < m.length)
    (hnews : ∀ j u, (Lib.byteCells m)[j]? = some u → w.cell? (ad.add j) = some u) (hl : l.length + m.length ≤ 100000000) (hB : B ≤ w.heap.size)
    (h : ∀ v' w', OwnE w' B v' (l ++ m) → w.grownBy w' v.ownBlock → wpList Try.prog ops Q rest (a.put o.dst v') w') : wpList Try.prog ops Q (o :: rest) a w := by
  subst hn
  refine wpList_plain hgd fun K hK => ?_
  obtain ⟨v', w', hr, h2, h3⟩ := run_append_E o.type hown ad c hm hnews hl hB
  unfold Oper.wp execOp
  simp only [ho, resolve, invoke, builtin, Sem.run_bind, Sem.run_pure, Result.andThen_ok, List.map_toArray, List.map_cons, List.map_nil, hs, hx, hr]
  exact hK _ _ (h v' w' h2 h3)
/-- The conversion itself. -/
theorem conv_world (w : World) (s : ByteArray) (B : Nat) (hB : B ≤ w.heap.size) (hs : s.size ≤ 1000000) :
    OwnE (Lib.bytesWorld w 5 s) B (.slice (some ⟨w.heap.size, 0, none⟩) s.size (grownCap w s.size 0 5)) s.data.toList ∧ Below w.heap.size w (Lib.bytesWorld w 5 s) := by
  have hsz : s.data.toList.length = s.size := Array.length_toList
  have hge := grownCap_ge w s.size 0 5
  have hcm : grownCap w s.size 0 5 ≤ maxLen := grownCap_le_maxLen w s.size 0 5 (by unfold maxLen; omega)
  have hcz : (Lib.bytesCells w 5 s).size = grownCap w s.size 0 5 := by
    unfold Lib.bytesCells
    rw [Array.size_append, Array.size_map, Array.size_replicate]
    have : s.data.size = s.size := rfl
    omega
  refine ⟨.inr ⟨w.heap.size, _, _, _, by rw [hsz], hB, Lib.bytesWorld_at_new w 5 s, Nat.le_refl _, by rw [hsz]; exact hge, hcm, hcz, ?_⟩, ?_⟩
  · unfold Lib.bytesCells Lib.byteCells
    rw [Array.toList_append, Array.toList_map, List.take_append_of_le_length (by rw [List.length_map]; exact Nat.le_refl _), List.take_of_length_le (by rw [List.length_map]; exact Nat.le_refl _)]
  · refine ⟨?_, ?_, ?_, by rw [Lib.bytesWorld_size]; omega, fun k hk => Lib.bytesWorld_at_old w 5 s k hk⟩
    · simp [Lib.bytesWorld, World.freeze, World.alloc, World.drew, -World.alloc_eq, -World.drew_eq]
    · simp [Lib.bytesWorld, World.freeze, World.alloc, World.drew, -World.alloc_eq, -World.drew_eq]
    · simp [Lib.bytesWorld, World.freeze, World.alloc, World.drew, -World.alloc_eq, -World.drew_eq]
end Go.Proofs.Ytbphhdmnfepbnaa.Lab
