/- Layer 5: slices.Insert at labels: one label, ahead of another one, where there is room. -/
import Derived.Shelf.Spec.SlicesInsertGrow
import Derived.Laws.CopyRow
import Derived.Test.YtbphhdmnfepbnaaLH
set_option linter.unusedVariables false
set_option linter.unusedSimpArgs false
namespace Go.Proofs.Ytbphhdmnfepbnaa.Lab
open Go.RowKit
/-- cs laid over L from o on. -/
def over (L : List Value) (o : Nat) (cs : List Value) : List Value := L.take o ++ (cs ++ L.drop (o + cs.length))
theorem over_at (p q cs : List Value) : over (p ++ q) p.length cs = p ++ (cs ++ q.drop cs.length) := by
  unfold over
  rw [List.take_left, ← List.drop_drop, List.drop_left]
theorem over_len (L : List Value) (o : Nat) (cs : List Value) (h : o + cs.length ≤ L.length) : (over L o cs).length = L.length := by
  unfold over
  simp only [List.length_append, List.length_take, List.length_drop]
  omega
theorem run_copy_lab (w : World) (ty : TypeId) (g o dLen dCap : Nat) (a : Addr) (sLen sCap k : Nat) (cur cs : List Value)
    (hg : w.heap[g]? = some (.cells cur.toArray 29 (0, 0))) (hk : Nat.min sLen dLen = k) (hn : k * 2 = cs.length)
    (hsrc : ∀ j v, cs[j]? = some v → w.cell? (a.add j) = some v) (hfit : o + cs.length ≤ cur.length) (h1 : ∀ v ∈ cs, v.oneCell' = true) :
    (Builtin.copy_ #[22, 22] ty #[.slice (some ⟨g, o, none⟩) dLen dCap, .slice (some a) sLen sCap]).run Try.prog w = .ok (goInt k) (w.setRow g (over cur o cs).toArray) := by
  obtain ⟨i0, hi, hz0, hz1, hz2⟩ := info_parts info29
  have hl := run_loadCells_list (P := Try.prog) w a cs hsrc
  have hst := run_storeCells_at Try.prog g o 29 cs 0 cur.toArray w hg (by simpa using hfit) h1
  simp [Builtin.copy_, run_underlying Try.underlying22, Builtin.lenOf, Builtin.firstCells, sizeOf, typeInfo, hi, hz1, hk, hn, hl, hst, over]
theorem over_apps (w : World) (vb g : Nat) (la lb ca cb o : Nat) (A B : Array Value) (ha : w.heap[vb]? = some (.cells A 29 (0, 0))) (hb : w.heap[g]? = some (.cells B 29 (0, 0))) (hB : B.size ≠ 0) (hne : vb ≠ g) :
    (callFunc 58 #[.slice (some ⟨vb, 0, none⟩) la ca, .slice (some ⟨g, o, none⟩) lb cb]).run Try.prog w = .ok (.value (.bool false)) w := by
  obtain ⟨i0, hi, hz0, hz1, hz2⟩ := info_parts info29
  rw [run_callFunc_extern Try.func58 (by kernel_rfl) (by kernel_rfl) (by kernel_rfl) (e := Extern.SlicesOverlaps.overlaps #[22, 22] #[4]) (by kernel_rfl),
    Lib.run_overlaps_apart w 22 4 29 Try.underlying22 2 (fun w => by simp [sizeOf, typeInfo, hi, hz1]) ⟨vb, 0, none⟩ ⟨g, o, none⟩ la ca lb cb hne 29 29 A.size B.size (by simp [World.shape?, ha]) (by simp [World.shape?, hb]) hB (by simp [World.frozen?, ha]) (by simp [World.frozen?, ha])]
  rfl
end Go.Proofs.Ytbphhdmnfepbnaa.Lab
