/- Layer 12: slices.Sorted(maps.Keys(counts)). -/
import Derived.Shelf.SlIterI.Nil
import Derived.Shelf.SortM.Plain
import Derived.Shelf.SortM.SortNone
import Derived.Test.YtffnopdpndpngaaMi
import Derived.Test.YtffnopdpndpngaaShelfB
import Derived.OwnWalk
import Derived.OpenShut
set_option linter.unusedVariables false
set_option linter.unusedSimpArgs false
namespace Go.Proofs.Ytffnopdpndpngaa.Lh
open Go.RowKit Go.Maps Go.Sort Go.Shelf
theorem sortsA (m : Nat) : AnyZI.SortsIn Try.prog Try.sortedA_ren Fence.wide m :=
  ⟨fun blk off cap ss W hH hblk hsz => callsIn_wide.2 (AnyM.slices_Sort_int Try.sortA blk off cap ss W hH hblk hsz),
   fun p cap W => callsIn_wide.2 (AnyM.slices_Sort_int_none Try.sortA p cap W)⟩
theorem keys_any (mb : Option Nat) (w : World) : CallsIn Fence.wide 5 Try.prog 65 #[.map mb] w fun e w' => e = .returned (.func (.func 86) #[] #[.pointer (some ⟨w.heap.size, 0, none⟩)]) ∧ w' = w.alloc (.cells #[.map mb] 86) :=
  AnyZI.keys_in Try.keysA Fence.wide 5 trivial rfl mb w
theorem sortedKeys_any (m : List B) (hm : m.length ≤ 1000) (b k : Nat) (w : World) (h : CntM w b k m) :
    CallsIn Fence.wide 5 Try.prog 36 #[.func (.func 86) #[] #[.pointer (some ⟨w.heap.size, 0, none⟩)]] (w.alloc (.cells #[.map (some b)] 86)) fun e w' =>
      ∃ v, e = .returned v ∧ w'.ownsRow (w.heap.size + 1) 3 1 v m.length ((m.map (·.1)).map encZ) ∧ Below (w.heap.size + 1) (w.alloc (.cells #[.map (some b)] 86)) w' := by
  obtain ⟨D, hown, ⟨ha, hp⟩, hD⟩ := h
  have hsz := CntM.size hown ha hp fun j => (hD j).2
  have hpm := CntM.perm hown ha hp fun j => (hD j).2
  have hmax : Maps.size D ≤ maxLen := by rw [hsz]; simp only [maxLen]; omega
  have hbytes : Maps.size D * 8 ≤ 140737488355328 := by rw [hsz]; omega
  have hseq : SeqGives Fence.wide 2 Try.prog 86 #[.pointer (some ⟨w.heap.size, 0, none⟩)] encZ (fun ss => ss.Perm (intKeys D)) (Maps.size D) (w.alloc (.cells #[.map (some b)] 86)) :=
    AnyZI.keys_gives (ρ := Try.keysA_ren) { Try.keysA with } Fence.wide _ trivial rfl (by omega) w.heap.size b k D _ (by simp) (by simp) (hown.alloc _)
  have cS := AnyZI.sorted_in Try.sortedA Fence.wide 5 trivial trivial trivial trivial rfl (by omega) (sortsA _) (enters_of Try.func60 (by kernel_rfl) rfl) 86 #[.pointer (some ⟨w.heap.size, 0, none⟩)] trivial (enters_of Try.func86 (by kernel_rfl) rfl) _ _ hmax hbytes _ hseq
  change CallsIn _ _ Try.prog 36 _ _ _ at cS
  refine cS.mono ?_
  rintro e w' ⟨v, ss, rfl, hS, hrow, hnil, hb⟩
  have hss : ss.Perm (m.map (·.1)) := hS.trans hpm.symm
  have hle := hss.length_eq
  rw [List.length_map] at hle
  rw [sort_keys ha hss, hle] at hrow
  simp only [World.size_alloc] at hrow hb
  exact ⟨v, rfl, hrow, hb⟩
theorem infoB : (Try.prog.info? 65).map (fun i => (i.zero, i.size, i.bytes)) = some (some (.agg #[.int .i64 0, .int .i64 0]), 2, 16) := by kernel_rfl
/-- The cells of a list of buckets. -/
def cellsB (l : List Lh.B) : List Value := l.flatMap fun x => [.int .i64 x.1, .int .i64 x.2]
theorem cellsB_nil : cellsB [] = [] := rfl
theorem cellsB_append (a b : List Lh.B) : cellsB (a ++ b) = cellsB a ++ cellsB b := by simp [cellsB]
theorem cellsB_one (x : Lh.B) : cellsB [x] = [.int .i64 x.1, .int .i64 x.2] := by simp [cellsB]
theorem cellsB_cons (x : Lh.B) (r : List Lh.B) : cellsB (x :: r) = .int .i64 x.1 :: .int .i64 x.2 :: cellsB r := by simp [cellsB]
theorem cellsB_length : ∀ l : List Lh.B, (cellsB l).length = l.length * 2
  | [] => rfl
  | x :: r => by
    have h := cellsB_length r
    rw [cellsB_cons, List.length_cons, List.length_cons, List.length_cons, h]
    omega
theorem cellsB_at : ∀ (l : List Lh.B) (j : Nat) (hj : j < l.length), (cellsB l)[j * 2]? = some (.int .i64 l[j].1) ∧ (cellsB l)[j * 2 + 1]? = some (.int .i64 l[j].2)
  | [], j, hj => by simp at hj
  | x :: r, 0, _ => by
    rw [cellsB_cons]
    exact ⟨rfl, rfl⟩
  | x :: r, j + 1, hj => by
    have h := cellsB_at r j (by simpa using hj)
    have e1 : (j + 1) * 2 = j * 2 + 1 + 1 := by omega
    rw [cellsB_cons, e1]
    exact h
theorem cellsB_one' (l : List Lh.B) : ∀ u ∈ cellsB l, u.oneCell' = true := by
  intro u hu
  simp only [cellsB, List.mem_flatMap, List.mem_cons, List.not_mem_nil, or_false] at hu
  obtain ⟨x, _, rfl | rfl⟩ := hu <;> rfl
/-- v owns the buckets l. -/
def OwnB (w : World) (B : Nat) (v : Value) (l : List Lh.B) : Prop := w.ownsRow B 65 2 v l.length (cellsB l)
theorem OwnB.form {w : World} {B : Nat} {v : Value} {l : List Lh.B} (h : OwnB w B v l) : ∃ A c, v = .slice A l.length c ∧ LS w w.heap.size A l := by
  rcases h.2 with ⟨rfl, h0⟩ | ⟨g, cap, cur, rfl, hr⟩
  · refine ⟨none, 0, by rw [h0], fun hne => absurd (List.length_eq_zero_iff.1 h0) hne⟩
  · refine ⟨_, _, rfl, fun hne => ⟨g, 0, rfl, (World.ownsRow.lt h g rfl).2, fun j hj => ?_⟩⟩
    have hc := World.ownsRow.cells (g := g) h rfl
    have h1 := hc (j * 2) _ (cellsB_at l j hj).1
    have h2 := hc (j * 2 + 1) _ (cellsB_at l j hj).2
    have e : ∀ i, (⟨g, 0, none⟩ : Addr).add i = ⟨g, 0 + i, none⟩ := fun i => by cases i <;> simp [Addr.add]
    rw [e] at h1 h2
    exact ⟨h1, h2⟩
theorem OwnB.below {w w' : World} {B : Nat} {v : Value} {l : List Lh.B} (h : OwnB w B v l) (hb : Below w.heap.size w w') : OwnB w' B v l := by
  refine ⟨h.1, ?_⟩
  rcases h.2 with h0 | ⟨g, cap, cur, e, h1, h2, h3⟩
  · exact .inl h0
  · exact .inr ⟨g, cap, cur, e, h1, (hb.block g (by have := (World.ownsRow.lt h g (by rw [e]; rfl)).2; omega)).trans h2, h3⟩
theorem OwnB.more {w : World} {B B' : Nat} {v : Value} {l : List Lh.B} (h : OwnB w B v l) (hB : B' ≤ B) : OwnB w B' v l := by
  refine ⟨h.1, ?_⟩
  rcases h.2 with h0 | ⟨g, cap, cur, e, h1, h3⟩
  · exact .inl h0
  · exact .inr ⟨g, cap, cur, e, by omega, h3⟩
theorem ownB_snoc {w : World} {B : Nat} {v : Value} {l : List Lh.B} {x : Lh.B} (h : w.ownsRow B 65 2 v (l.length + 1) (cellsB l ++ [.int .i64 x.1, .int .i64 x.2])) : OwnB w B v (l ++ [x]) := by
  unfold OwnB
  rw [List.length_append, cellsB_append, cellsB_one]
  exact h
theorem cf_at : ∀ {l : List B}, Asc l → ∀ (k : Nat) (h : k < l.length), cf l l[k].1 = l[k].2
  | [], _, k, h => by simp at h
  | b :: r, ha, 0, _ => cf_head ha
  | b :: r, ha, k + 1, h => by
    have hk : k < r.length := by simpa using h
    have h1 := (asc_cons.mp ha).1 r[k] (List.getElem_mem hk)
    show cf (b :: r) r[k].1 = r[k].2
    rw [cf_cons, if_neg (by omega), cf_at (asc_cons.mp ha).2 k hk]
    omega
theorem CntM.keyIn {w : World} {b k : Nat} {m : List B} (h : CntM w b k m) {x : B} (hx : x ∈ m) : inI x.1 := by
  obtain ⟨D, hown, ⟨ha, hp⟩, hD⟩ := h
  have hpm := CntM.perm hown ha hp fun j => (hD j).2
  exact bounds_i64 (intKeys_wf hown Try.underlying3 x.1 (hpm.subset (List.mem_map_of_mem hx)))
/-- A row of numbers by its cells. -/
theorem row_form {w : World} {base : Nat} {v : Value} {ks : List Int} (h : w.ownsRow base 3 1 v ks.length (ks.map encZ)) :
    ∃ A c, v = .slice A ks.length c ∧ ∀ j (hj : j < ks.length), ∃ g, A = some ⟨g, 0, none⟩ ∧ base ≤ g ∧ g < w.heap.size ∧ w.cell? ⟨g, j, none⟩ = some (.int .i64 ks[j]) := by
  rcases h.2 with ⟨rfl, h0⟩ | ⟨g, cap, cur, rfl, hr⟩
  · exact ⟨none, 0, by rw [h0], fun j hj => by omega⟩
  · refine ⟨_, _, rfl, fun j hj => ⟨g, rfl, (World.ownsRow.lt h g rfl).1, (World.ownsRow.lt h g rfl).2, ?_⟩⟩
    have hc := World.ownsRow.cells (g := g) h rfl
    have h1 := hc j (.int .i64 ks[j]) (by rw [List.getElem?_map, List.getElem?_eq_getElem hj]; rfl)
    have e : (⟨g, 0, none⟩ : Addr).add j = ⟨g, 0 + j, none⟩ := by cases j <;> simp [Addr.add]
    rw [e, Nat.zero_add] at h1
    exact h1
theorem OwnB.nil (w : World) (B : Nat) : OwnB w B (.slice none 0 0) [] := ⟨rfl, .inl ⟨rfl, rfl⟩⟩
theorem take_snocB {l : List B} {k : Nat} (h : k < l.length) : l.take (k + 1) = l.take k ++ [l[k]] := by
  rw [List.take_add_one, List.getElem?_eq_getElem h]
  rfl
end Go.Proofs.Ytffnopdpndpngaa.Lh
