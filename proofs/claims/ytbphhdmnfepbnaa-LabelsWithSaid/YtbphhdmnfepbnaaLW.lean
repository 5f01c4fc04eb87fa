/- Layer 5: append onto the row of a constant (its block bears a mark behind its only cell), or onto one of the call's own. -/
import Derived.Test.YtbphhdmnfepbnaaLL
set_option linter.unusedVariables false
set_option linter.unusedSimpArgs false
namespace Go.Proofs.Ytbphhdmnfepbnaa.Lab
open Go.RowKit
/-- v owns the bytes l, or it is the constant's row still. -/
def OwnM (w : World) (B : Nat) (v : Value) (l : List UInt8) : Prop :=
  OwnB w B v l ∨ (l = [123] ∧ ∃ g, v = .slice (some ⟨g, 0, none⟩) 1 1 ∧ B ≤ g ∧ w.heap[g]? = some (.cells #[.int .u8 123] 5 (1, 2)))
theorem OwnM.below {w w' : World} {B : Nat} {v : Value} {l : List UInt8} (h : OwnM w B v l) (hb : Below w.heap.size w w') : OwnM w' B v l := by
  rcases h with h | ⟨hl, g, hv, hg, hh⟩
  · exact .inl (h.below hb)
  · exact .inr ⟨hl, g, hv, hg, (hb.block g (Array.getElem?_eq_some_iff.1 hh).1).trans hh⟩
theorem OwnM.lt {w : World} {B : Nat} {v : Value} {l : List UInt8} (h : OwnM w B v l) : ∀ g, v.ownBlock = some g → B ≤ g ∧ g < w.heap.size := fun k hk => by
  rcases h with h | ⟨hl, g, rfl, hg, hh⟩
  · exact h.lt k hk
  · simp only [Value.ownBlock, Option.some.injEq] at hk
    subst hk
    exact ⟨hg, (Array.getElem?_eq_some_iff.1 hh).1⟩
theorem OwnM.ne {w : World} {B : Nat} {v : Value} {l : List UInt8} (h : OwnM w B v l) {g : Nat} {cs : Array Value} {fz : Nat × Nat} (hh : w.heap[g]? = some (.cells cs 29 fz)) : some g ≠ v.ownBlock := by
  intro e
  rcases h with h | ⟨hl, g', rfl, hg, hh'⟩
  · rcases h.2 with ⟨rfl, _⟩ | ⟨g', cap, cur, rfl, _, hh', _⟩
    · simp [Value.ownBlock] at e
    · have : g = g' := by simpa [Value.ownBlock] using e
      subst this
      rw [hh] at hh'
      simp at hh'
  · have : g = g' := by simpa [Value.ownBlock] using e
    subst this
    rw [hh] at hh'
    simp at hh'
theorem grown_own (w : World) (B : Nat) (hB : B ≤ w.heap.size) (l m : List UInt8) (old : Nat) (hm : l.length + m.length ≤ 100000000) (row : Option Nat) :
    OwnB (w.drew.alloc (.cells ((Lib.byteCells l).toArray ++ (Lib.byteCells m).toArray ++ Builtin.zeroCells (Value.int .u8 0).cells (grownCap w (l.length + m.length) old 5 - (l.length + m.length))) 5)) B
      (.slice (some ⟨w.heap.size, 0, none⟩) (l.length + m.length) (grownCap w (l.length + m.length) old 5)) (l ++ m) ∧
    w.grownBy (w.drew.alloc (.cells ((Lib.byteCells l).toArray ++ (Lib.byteCells m).toArray ++ Builtin.zeroCells (Value.int .u8 0).cells (grownCap w (l.length + m.length) old 5 - (l.length + m.length))) 5)) row := by
  have hge := grownCap_ge w (l.length + m.length) old 5
  have hcm : grownCap w (l.length + m.length) old 5 ≤ maxLen := grownCap_le_maxLen w (l.length + m.length) old 5 (by simp only [maxLen]; omega)
  have hlen : (Lib.byteCells (l ++ m)).length = (l.length + m.length) * 1 := by rw [Lib.byteCells_length, List.length_append, Nat.mul_one]
  refine ⟨?_, ⟨rfl, rfl, rfl, by simp, fun k hk _ => Below.heap_alloc w.drew _ k hk⟩⟩
  unfold OwnB
  rw [List.length_append]
  refine ⟨hlen, .inr ⟨w.heap.size, _, _, rfl, hB, heap_alloc_new w.drew _, hge, hcm, ?_, ?_⟩⟩
  · have hz1 : (Value.int IntKind.u8 0).cells.size = 1 := rfl
    simp only [Array.size_append, List.size_toArray, size_zeroCells, hz1, Lib.byteCells_length]
    omega
  · simp only [Array.toList_append, ← Lib.byteCells_append]
    rw [← hlen]
    exact List.take_left
theorem run_append_M_string {w : World} {B : Nat} {v : Value} {l : List UInt8} (ty : TypeId) (h : OwnM w B v l) (s : ByteArray) (hl : l.length + s.size ≤ 100000000) (hB : B ≤ w.heap.size) :
    ∃ v' w', (Builtin.append_ #[47, 9] ty #[v, .string s]).run Try.prog w = .ok v' w' ∧ OwnM w' B v' (l ++ s.data.toList) ∧ w.grownBy w' v.ownBlock ∧ (0 < s.size → OwnB w' B v' (l ++ s.data.toList)) := by
  obtain ⟨i0, hi, hz0, hz1, hz2⟩ := info_parts info5
  have hsz : s.data.toList.length = s.size := Array.length_toList
  rcases h with h | ⟨rfl, g, rfl, hg, hh⟩
  · obtain ⟨v', w', hr, h2, h3, _⟩ := Lib.run_append_own_string (P := Try.prog) w B 47 9 ty 5 i0 Try.underlying47 Try.underlying9 hi hz0 hz1 hz2 v _ _ h s (by simp only [maxLen]; omega) (by omega) hB
    have ho := OwnB.snoc (m := s.data.toList) h2 rfl hsz.symm
    exact ⟨v', w', hr, .inl ho, h3, fun _ => ho⟩
  · rcases Nat.eq_zero_or_pos s.size with h0 | h0
    · have hn : s.data.toList = [] := List.eq_nil_of_length_eq_zero (by omega)
      have hf := Lib.run_firstCells_string (P := Try.prog) w 1 s
      rw [h0, show Lib.strCells s = [] by unfold Lib.strCells; rw [hn]; rfl] at hf
      refine ⟨_, w, ?_, by rw [hn, List.append_nil]; exact .inr ⟨rfl, g, rfl, hg, hh⟩, ⟨rfl, rfl, rfl, Nat.le_refl _, fun _ _ _ => rfl⟩, fun h => absurd h (by omega)⟩
      simp [Builtin.append_, run_underlying Try.underlying47, run_underlying Try.underlying9, sizeOf, typeInfo, hi, hz1, Builtin.lenOf, h0, hf, storeCells]
    · have hr := Lib.run_append_grow_string (P := Try.prog) w 47 9 ty 5 i0 (.int .u8 0) Try.underlying47 Try.underlying9 hi hz0 ⟨g, 0, none⟩ 1 1 [.int .u8 123] (by rw [hz1]; rfl)
        (fun j u hu => by
          have : j = 0 := by have := (List.getElem?_eq_some_iff.1 hu).1; simpa using this
          subst this
          cases hu
          simp [Addr.add, World.cell?, hh]) s (by omega) (by omega) (by rw [hz2]; exact growslice_fits (by omega) (by omega))
      have hgr := grown_own w B hB [123] s.data.toList 1 (by rw [hsz]; exact hl) (Value.ownBlock (.slice (some ⟨g, 0, none⟩) 1 1))
      rw [hsz] at hgr
      exact ⟨_, _, hr, .inl hgr.1, hgr.2, fun _ => hgr.1⟩
theorem run_append_M {w : World} {B : Nat} {v : Value} {l m : List UInt8} (ty : TypeId) (h : OwnM w B v l) (a : Addr) (c : Nat) (hm : 0 < m.length) (hnews : ∀ j u, (Lib.byteCells m)[j]? = some u → w.cell? (a.add j) = some u) (hl : l.length + m.length ≤ 100000000) (hB : B ≤ w.heap.size) :
    ∃ v' w', (Builtin.append_ #[47, 47] ty #[v, .slice (some a) m.length c]).run Try.prog w = .ok v' w' ∧ OwnB w' B v' (l ++ m) ∧ w.grownBy w' v.ownBlock := by
  obtain ⟨i0, hi, hz0, hz1, hz2⟩ := info_parts info5
  have h1 : ∀ u ∈ Lib.byteCells m, u.oneCell' = true := fun u hu => by
    simp only [Lib.byteCells, List.mem_map] at hu
    obtain ⟨b, _, rfl⟩ := hu
    rfl
  rcases h with h | ⟨rfl, g, rfl, hg, hh⟩
  · obtain ⟨v', w', hr, h2, h3, _⟩ := run_append_own (P := Try.prog) w B 47 ty 5 i0 _ 1 1 Try.underlying47 hi hz0 hz1 hz2 rfl (by decide) v _ _ h a m.length c (Lib.byteCells m) (by rw [Lib.byteCells_length, Nat.mul_one]) hnews h1 (by simp only [maxLen]; omega) (by omega) hB
    exact ⟨v', w', hr, OwnB.snoc (m := m) h2 rfl rfl, h3⟩
  · have hr := run_append_grow (P := Try.prog) w 47 ty 5 i0 (.int .u8 0) Try.underlying47 hi hz0 ⟨g, 0, none⟩ 1 1 [.int .u8 123] (by rw [hz1]; rfl)
        (fun j u hu => by
          have : j = 0 := by have := (List.getElem?_eq_some_iff.1 hu).1; simpa using this
          subst this
          cases hu
          simp [Addr.add, World.cell?, hh]) a m.length c (Lib.byteCells m) (by rw [hz1, Lib.byteCells_length, Nat.mul_one]) hnews (by simp only [List.length_singleton] at hl; omega) (by simp only [List.length_singleton] at hl; omega) (by rw [hz2]; simp only [List.length_singleton] at hl; exact growslice_fits (by omega) (by omega))
    have hgr := grown_own w B hB [123] m 1 hl (Value.ownBlock (.slice (some ⟨g, 0, none⟩) 1 1))
    exact ⟨_, _, hr, hgr.1, hgr.2⟩
theorem wpList_append_M_string {w : World} {ops : Array Oper} {rest : List Oper} {o : Oper} {a : Act} {Q : Exit → Act → World → Prop} (hgd : o.guard = none) (sl x : Operand)
    (ho : o.op = .call { callee := .builtin .append, args := #[sl, x], argTypes := #[47, 9] }) (B : Nat) (v : Value) (l : List UInt8) (hs : a.eval sl = v) (hown : OwnM w B v l) (s : ByteArray) (hx : a.eval x = .string s)
    (hl : l.length + s.size ≤ 100000000) (hB : B ≤ w.heap.size)
    (h : ∀ v' w', OwnM w' B v' (l ++ s.data.toList) → w.grownBy w' v.ownBlock → (0 < s.size → OwnB w' B v' (l ++ s.data.toList)) → wpList Try.prog ops Q rest (a.put o.dst v') w') : wpList Try.prog ops Q (o :: rest) a w := by
  refine wpList_plain hgd fun K hK => ?_
  obtain ⟨v', w', hr, h2, h3, h4⟩ := run_append_M_string o.type hown s hl hB
  unfold Oper.wp execOp
  simp only [ho, resolve, invoke, builtin, Sem.run_bind, Sem.run_pure, Result.andThen_ok, List.map_toArray, List.map_cons, List.map_nil, hs, hx, hr]
  exact hK _ _ (h v' w' h2 h3 h4)
theorem wpList_append_M {w : World} {ops : Array Oper} {rest : List Oper} {o : Oper} {a : Act} {Q : Exit → Act → World → Prop} (hgd : o.guard = none) (sl x : Operand)
    (ho : o.op = .call { callee := .builtin .append, args := #[sl, x], argTypes := #[47, 47] }) (B : Nat) (v : Value) (l : List UInt8) (hs : a.eval sl = v) (hown : OwnM w B v l) (ad : Addr) (c : Nat) (m : List UInt8) (n : Nat) (hx : a.eval x = .slice (some ad) n c) (hn : n = m.length) (hm : 0 < m.length)
    (hnews : ∀ j u, (Lib.byteCells m)[j]? = some u → w.cell? (ad.add j) = some u) (hl : l.length + m.length ≤ 100000000) (hB : B ≤ w.heap.size)
    (h : ∀ v' w', OwnB w' B v' (l ++ m) → w.grownBy w' v.ownBlock → wpList Try.prog ops Q rest (a.put o.dst v') w') : wpList Try.prog ops Q (o :: rest) a w := by
  subst hn
  refine wpList_plain hgd fun K hK => ?_
  obtain ⟨v', w', hr, h2, h3⟩ := run_append_M o.type hown ad c hm hnews hl hB
  unfold Oper.wp execOp
  simp only [ho, resolve, invoke, builtin, Sem.run_bind, Sem.run_pure, Result.andThen_ok, List.map_toArray, List.map_cons, List.map_nil, hs, hx, hr]
  exact hK _ _ (h v' w' h2 h3)
end Go.Proofs.Ytbphhdmnfepbnaa.Lab
