/- Layer 11: a row of samples that is written over; sorting. -/
import Derived.Lib.SliceRun
import Derived.Laws.IdiomCopy
import Derived.Shelf.SlSortCmp.NoneTotal
import Derived.Test.YtobipbedkkmlcaaShelf
import Derived.Test.YtobipbedkkmlcaaTaE
set_option maxRecDepth 100000
set_option linter.unusedVariables false
set_option linter.unusedSimpArgs false
namespace Go.Proofs.Ytobipbedkkmlcaa.Sr
open Go.RowKit
open Go.Sort (grow SWO)
open Go.Proofs (ltOf)
/-- The cells of block g begin with the matchers L. -/
def RowB (w : World) (g cap : Nat) (L : List S) : Prop := ∃ cur : Array Value, w.heap[g]? = some (.cells cur 33 (0, 0)) ∧ cur.size = cap * 2 ∧ cap ≤ maxLen ∧ L.length ≤ cap ∧ cur.toList.take (L.length * 2) = cellsL L
theorem RowB.of_own {w : World} {B g cap : Nat} {n : Nat} {L : List S} (h : OwnS w B (.slice (some ⟨g, 0, none⟩) n cap) L) : B ≤ g ∧ n = L.length ∧ RowB w g cap L := by
  rcases h.2 with ⟨h0, _⟩ | ⟨g', cap', cur, hv, hB, h1, h2, h3, h4, h5⟩
  · cases h0
  · injection hv with e1 e2 e3
    injection e1 with e1
    injection e1 with e1
    subst e1 e2 e3
    refine ⟨hB, rfl, cur, h1, h4, h3, h2, ?_⟩
    have e := cellsL_length L
    rw [← e]
    rw [e]
    exact h5
theorem RowB.own {w : World} {B g cap : Nat} {L : List S} (h : RowB w g cap L) (hB : B ≤ g) : OwnS w B (.slice (some ⟨g, 0, none⟩) L.length cap) L := by
  obtain ⟨cur, h1, h2, h3, h4, h5⟩ := h
  exact ⟨by rw [cellsL_length], .inr ⟨g, cap, cur, rfl, hB, h1, h4, h3, h2, h5⟩⟩
theorem RowB.lt {w : World} {g cap : Nat} {L : List S} (h : RowB w g cap L) : g < w.heap.size := by
  obtain ⟨cur, h1, _⟩ := h
  exact (Array.getElem?_eq_some_iff.1 h1).1
theorem RowB.keep {w w' : World} {g cap : Nat} {L : List S} (h : RowB w g cap L) (hb : w'.heap[g]? = w.heap[g]?) : RowB w' g cap L := by
  obtain ⟨cur, h1, h2⟩ := h
  exact ⟨cur, hb.trans h1, h2⟩
theorem RowB.up {w w' : World} {g cap : Nat} {L : List S} (h : RowB w g cap L) (hb : Below w.heap.size w w') : RowB w' g cap L := h.keep (hb.block g h.lt)
theorem RowB.cell {w : World} {g cap : Nat} {L : List S} (h : RowB w g cap L) {j : Nat} (hj : j < L.length) :
    w.cell? ⟨g, j * 2, none⟩ = some (.int .i64 L[j].1) ∧ w.cell? ⟨g, j * 2 + 1, none⟩ = some (.int .i64 L[j].2) ∧ w.frozen? ⟨g, j * 2, none⟩ = false ∧ w.frozen? ⟨g, j * 2 + 1, none⟩ = false := by
  obtain ⟨cur, h1, h2, h3, h4, h5⟩ := h
  obtain ⟨a, b⟩ := cellsL_at L j hj
  have get : ∀ i u, i < L.length * 2 → (cellsL L)[i]? = some u → cur[i]? = some u := fun i u hi hu => by
    rw [← h5, List.getElem?_take_of_lt hi] at hu
    rw [← hu, Array.getElem?_toList]
  have c1 : ∀ i u, i < L.length * 2 → (cellsL L)[i]? = some u → w.cell? ⟨g, i, none⟩ = some u := fun i u hi hu => by
    have := get i u hi hu
    simp [World.cell?, h1, this]
  have f1 : ∀ i, w.frozen? ⟨g, i, none⟩ = false := fun i => by simp [World.frozen?, h1]
  exact ⟨c1 _ _ (by omega) a, c1 _ _ (by omega) b, f1 _, f1 _⟩
theorem cellsL_set : ∀ (L : List S) (j : Nat) (m : S), j < L.length → ((cellsL L).set (j * 2) (.int .i64 m.1)).set (j * 2 + 1) (.int .i64 m.2) = cellsL (L.set j m)
  | [], j, m, h => by simp at h
  | x :: r, 0, m, _ => by rw [List.set_cons_zero, cellsL_cons, cellsL_cons]; rfl
  | x :: r, j + 1, m, h => by
    have ih := cellsL_set r j m (by simpa using h)
    rw [List.set_cons_succ, cellsL_cons, cellsL_cons, ← ih]
    have e1 : (j + 1) * 2 = j * 2 + 1 + 1 := by omega
    rw [e1]
    simp only [List.set_cons_succ]
theorem setCell_heap {w : World} {g i : Nat} {cur : Array Value} {t : TypeId} (v : Value) (h : w.heap[g]? = some (.cells cur t (0, 0))) : (w.setCell ⟨g, i, none⟩ v).heap[g]? = some (.cells (cur.setIfInBounds i v) t (0, 0)) := by
  simp [World.setCell, Array.getElem?_modify, h]
theorem RowB.set {w : World} {g cap : Nat} {L : List S} (h : RowB w g cap L) {j : Nat} (hj : j < L.length) (m : S) :
    RowB ((w.setCell ⟨g, j * 2, none⟩ (.int .i64 m.1)).setCell ⟨g, j * 2 + 1, none⟩ (.int .i64 m.2)) g cap (L.set j m) := by
  obtain ⟨cur, h1, h2, h3, h4, h5⟩ := h
  refine ⟨_, setCell_heap _ (setCell_heap _ h1), by simp [h2], h3, by rw [List.length_set]; exact h4, ?_⟩
  rw [List.length_set, ← cellsL_set L j m hj, ← h5]
  simp only [Array.toList_setIfInBounds, List.take_set]
theorem set_grown {w : World} (g i : Nat) (v : Value) : w.grownBy (w.setCell ⟨g, i, none⟩ v) (some g) :=
  ⟨rfl, rfl, rfl, by simp [World.setCell], fun b _ hne => Below.heap_setCell _ _ _ _ (fun e => hne (by rw [e]))⟩
theorem sets_grown (g : Nat) : ∀ (vs : List Value) (o : Nat) (w : World), w.grownBy (w.setCells g o vs) (some g)
  | [], o, w => ⟨rfl, rfl, rfl, Nat.le_refl _, fun _ _ _ => rfl⟩
  | v :: r, o, w => (set_grown g o v).trans (sets_grown g r (o + 1) _)
theorem RowB.clear {g cap : Nat} {L : List S} : ∀ (vs : List Value) (o : Nat) (w : World), L.length * 2 ≤ o → RowB w g cap L → RowB (w.setCells g o vs) g cap L
  | [], o, w, _, h => h
  | v :: r, o, w, ho, h => by
    refine RowB.clear r (o + 1) _ (by omega) ?_
    obtain ⟨cur, h1, h2, h3, h4, h5⟩ := h
    refine ⟨_, setCell_heap _ h1, by simp [h2], h3, h4, ?_⟩
    rw [Array.toList_setIfInBounds, List.take_set_of_le ho]
    exact h5
theorem RowB.take {w : World} {g cap : Nat} {L : List S} (h : RowB w g cap L) (n : Nat) : RowB w g cap (L.take n) := by
  obtain ⟨cur, h1, h2, h3, h4, h5⟩ := h
  refine ⟨cur, h1, h2, h3, Nat.le_trans (List.length_take_le' _ _) h4, ?_⟩
  have e : cellsL (L.take n) = (cellsL L).take ((L.take n).length * 2) := by
    have h : cellsL L = cellsL (L.take n) ++ cellsL (L.drop n) := by rw [← cellsL_append, List.take_append_drop]
    rw [h, List.take_left' (by rw [cellsL_length])]
  rw [e, ← h5, List.take_take, Nat.min_eq_left (by have := List.length_take_le' n L; omega)]
/-- The cells that 'clear' lays. -/
def zer (n : Nat) : List Value := (Builtin.zeroCells (Value.agg #[.int .i64 0, .int .i64 0]).cells n).toList
theorem zer_length (n : Nat) : (zer n).length = n * 2 := by simp [zer, Builtin.zeroCells, Value.cells]
theorem zer_one (n : Nat) : ∀ u ∈ zer n, u.oneCell' = true := by
  intro u hu
  unfold zer Builtin.zeroCells at hu
  simp only [Array.toList_map, List.mem_map] at hu
  obtain ⟨i, _, rfl⟩ := hu
  have hi : i % 2 < 2 := Nat.mod_lt _ (by omega)
  show ((#[.int .i64 0, .int .i64 0] : Array Value)[i % 2]!).oneCell' = true
  generalize i % 2 = q at hi
  match q, hi with
  | 0, _ => rfl
  | 1, _ => rfl
theorem zeroS (w : World) : (zeroValue 33).run Try.prog w = .ok (.agg #[.int .i64 0, .int .i64 0]) w := by kernel_rfl
theorem run_clearS {w : World} {g cap : Nat} {L : List S} (h : RowB w g cap L) {i : Nat} (hi : i < L.length) (c : Nat) (ty : TypeId) :
    (Builtin.clear_ #[22] ty #[.slice (some ⟨g, i * 2, none⟩) (L.length - i) c]).run Try.prog w = .ok (.tuple #[]) (w.setCells g (i * 2) (zer (L.length - i))) := by
  have hk : ∀ j, j < (zer (L.length - i)).length → (w.cell? ⟨g, i * 2 + 0 + j, none⟩).isSome = true := fun j hj => by
    rw [zer_length] at hj
    obtain ⟨cur, h1, h2, h3, h4, h5⟩ := h
    have hlt : i * 2 + j < cur.size := by rw [h2]; omega
    simp [World.cell?, h1, hlt]
  have hf : ∀ j, j < (zer (L.length - i)).length → w.frozen? ⟨g, i * 2 + 0 + j, none⟩ = false := fun j _ => by
    obtain ⟨cur, h1, _⟩ := h
    simp [World.frozen?, h1]
  have hst := run_storeCells_cells (P := Try.prog) g (i * 2) (zer (L.length - i)) 0 w hk hf (zer_one _)
  obtain ⟨q, hq⟩ : ∃ q, L.length - i = q + 1 := ⟨L.length - i - 1, by omega⟩
  rw [hq] at hst ⊢
  rw [Nat.add_zero] at hst
  unfold zer at hst
  simp [Builtin.clear_, run_underlying Try.underlying22, zeroS, hst, zer]
def encM (m : S) : List Value := [.int .i64 m.1, .int .i64 m.2]
theorem flat_get (L : List S) (t : Nat) (ht : t < L.length * 2) : (encM (L.toArray[t / 2]!))[t % 2]! = (cellsL L)[t]'(by rw [cellsL_length]; exact ht) := by
  have hj : t / 2 < L.length := by omega
  have e : L.toArray[t / 2]! = L[t / 2] := by simp [hj]
  rw [e]
  obtain ⟨a, b⟩ := cellsL_at L (t / 2) hj
  have hr : t % 2 < 2 := Nat.mod_lt _ (by omega)
  have get : ∀ q u, t % 2 = q → (cellsL L)[t / 2 * 2 + q]? = some u → (encM L[t / 2])[q]! = u → (encM L[t / 2])[t % 2]! = (cellsL L)[t]'(by rw [cellsL_length]; exact ht) := fun q u hq hu he => by
    have ht3 : t / 2 * 2 + q = t := by omega
    rw [hq, he]
    have h := hu
    simp only [ht3] at h
    rw [List.getElem?_eq_getElem (by rw [cellsL_length]; exact ht)] at h
    injection h with h
    exact h.symm
  match h : t % 2, hr with
  | 0, _ => rw [← h]; exact get 0 _ h a rfl
  | 1, _ => rw [← h]; exact get 1 _ h b rfl
theorem flat_cel (L : List S) : (Go.Sort.flatK encM 2 L.toArray).toList = cellsL L := by
  apply List.ext_getElem
  · rw [Array.length_toList, Go.Sort.size_flatK, cellsL_length]; simp
  · intro t h1 h2
    have ht : t < L.length * 2 := by rw [cellsL_length] at h2; exact h2
    have h := Go.Sort.get_flatK encM 2 L.toArray t (by simpa using ht)
    rw [Array.getElem_toList, ← flat_get L t ht, ← h]
    exact (getElem!_pos _ _ (by simpa using ht)).symm
theorem RowB.holds {w : World} {g cap : Nat} {L : List S} (h : RowB w g cap L) : Go.Sort.HoldsK encM 2 w g 0 L.toArray := by
  intro i hi
  have hi' : i < L.length * 2 := by simpa using hi
  obtain ⟨cur, h1, h2, h3, h4, h5⟩ := h
  have e : (Go.Sort.flatK encM 2 L.toArray)[i]! = (cellsL L)[i]'(by rw [cellsL_length]; exact hi') := by
    rw [Go.Sort.get_flatK encM 2 L.toArray i (by simpa using hi'), flat_get L i hi']
  have hc : cur[i]? = some ((cellsL L)[i]'(by rw [cellsL_length]; exact hi')) := by
    have h6 : (cellsL L)[i]? = some ((cellsL L)[i]'(by rw [cellsL_length]; exact hi')) := List.getElem?_eq_getElem _
    rw [← h6, ← h5, List.getElem?_take_of_lt hi', Array.getElem?_toList]
  refine ⟨?_, by simp [World.frozen?, h1]⟩
  rw [e, Nat.zero_add]
  simp [World.cell?, h1, hc]
theorem RowB.sorted {w : World} {g cap : Nat} {L L' : List S} (h : RowB w g cap L) (hl : L'.length = L.length) (n : Nat) (os : Array Obj) : RowB (sortWorldK encM 2 w g 0 n L'.toArray os) g cap L' ∧ w.grownBy (sortWorldK encM 2 w g 0 n L'.toArray os) (some g) := by
  have hlt := h.lt
  obtain ⟨cur, h1, h2, h3, h4, h5⟩ := h
  have hs : (Go.Sort.putRowK encM 2 (Go.Sort.ahead w n) g 0 L'.toArray).heap.size = w.heap.size := by
    simp [Go.Sort.putRowK, Go.Sort.putRow, Go.Sort.mapBlock, Go.Sort.ahead]
  have hg : (sortWorldK encM 2 w g 0 n L'.toArray os).heap[g]? = some (.cells (Go.Sort.putCells id 0 (Go.Sort.flatK encM 2 L'.toArray) cur) 33 (0, 0)) := by
    unfold sortWorldK grow
    simp only
    rw [Array.getElem?_append_left (by rw [hs]; exact hlt)]
    simp [Go.Sort.putRowK, Go.Sort.putRow, Go.Sort.mapBlock, Go.Sort.ahead, Array.getElem?_modify, h1, Go.Sort.onCells]
  refine ⟨⟨_, hg, by simp [Go.Sort.putCells, h2], h3, by omega, ?_⟩, rfl, rfl, rfl, ?_, ?_⟩
  · rw [← flat_cel L']
    apply List.ext_getElem
    · rw [List.length_take, Array.length_toList, Array.length_toList]
      have e2 : (Go.Sort.flatK encM 2 L'.toArray).toList.length = L'.length * 2 := by rw [Array.length_toList, Go.Sort.size_flatK]; simp
      rw [e2]
      have e : (Go.Sort.putCells id 0 (Go.Sort.flatK encM 2 L'.toArray) cur).size = cur.size := by simp [Go.Sort.putCells]
      rw [e, h2]
      simp only [List.size_toArray]
      omega
    · intro t a b
      have ht : t < L'.length * 2 := by rw [Array.length_toList, Go.Sort.size_flatK] at b; simpa using b
      rw [List.getElem_take, Array.getElem_toList, Array.getElem_toList]
      simp only [Go.Sort.putCells, Array.getElem_mapIdx]
      rw [if_pos (by simp; exact ht)]
      simp only [Nat.sub_zero, id]
      exact getElem!_pos _ _ (by simpa using ht)
  · unfold sortWorldK grow
    simp [hs]
  · intro b hb hne
    unfold sortWorldK grow
    simp only
    rw [Array.getElem?_append_left (by rw [hs]; exact hb)]
    have hgb : g ≠ b := fun e => hne (by rw [e])
    simp [Go.Sort.putRowK, Go.Sort.putRow, Go.Sort.mapBlock, Go.Sort.ahead, Array.getElem?_modify, hgb]
def cmpT (x y : S) : Int := cmpI x.1 y.1
theorem ltOf_T (x y : S) : ltOf cmpT x y = decide (x.1 < y.1) := by
  show decide (cmpI x.1 y.1 < 0) = _
  unfold cmpI
  by_cases h1 : x.1 < y.1
  · rw [if_pos h1]; simp [h1]
  · rw [if_neg h1]
    by_cases h2 : y.1 < x.1
    · rw [if_pos h2]; simp [h1]
    · rw [if_neg h2]; simp [h1]
theorem swo_T : SWO (ltOf cmpT) where
  irrefl x := by rw [ltOf_T]; simp
  trans x y z h1 h2 := by
    rw [ltOf_T, decide_eq_true_iff] at *
    omega
  ntrans x y z h1 h2 := by
    rw [ltOf_T, decide_eq_false_iff_not] at *
    omega
theorem times_any (x y : S) (w : World) : Calls Try.prog 43 #[smpV x, smpV y] w fun e w' => e = .returned (.int .i64 (cmpT x y)) ∧ ∃ q os', w' = grow (w.drewN q) os' := by
  obtain ⟨t1, v1⟩ := x
  obtain ⟨t2, v2⟩ := y
  show Calls Try.prog 43 #[smpV (t1, v1), smpV (t2, v2)] w fun e w' => e = .returned (.int .i64 (cmpI t1 t2)) ∧ ∃ q os', w' = grow (w.drewN q) os'
  have C := Lib.hid (cmpI_any t1 t2)
  generalize cmpI t1 t2 = z at *
  go_enter Try.func43, Try.ntmps43
  go_wp2_with (go_at_call 44; (with_reducible refine (C.out _).mono ?_); rintro e w1 ⟨rfl, rfl⟩)
  go_ret
  exact ⟨rfl, 0, _, by rw [Go.Sort.alloc_eq_grow, Go.Sort.alloc_eq_grow, Go.Sort.grow_grow]; rfl⟩
theorem entersT : ∀ args w, (callFunc 43 args).run Try.prog w = .ok (.enter 43 args) w := enters_of Try.func43 (by kernel_rfl) rfl
/-- The same samples, those of earlier times first. -/
def SortedS (l r : List S) : Prop := r.Perm l ∧ r.Pairwise fun x y => x.1 ≤ y.1
theorem sorted_of {d d' : Array S} (hp : Go.Sort.PermIn 0 d.size d d') (hs : Go.Sort.SortedIn (ltOf cmpT) 0 d.size d') : SortedS d.toList d'.toList := by
  obtain ⟨h1, h2, h3⟩ := hp
  refine ⟨?_, ?_⟩
  · rw [← h1, Array.extract_size, h1, Array.extract_size] at h3
    exact h3
  · rw [List.pairwise_iff_getElem]
    intro i j hi hj hij
    have h := hs i j (Nat.zero_le _) hij (by rw [← h1]; simpa using hj)
    rw [ltOf_T, decide_eq_false_iff_not] at h
    rw [getElem!_pos d' j (by simpa using hj), getElem!_pos d' i (by simpa using hi)] at h
    rw [Array.getElem_toList, Array.getElem_toList]
    omega
def SrtP (gr cap : Nat) (l : List S) (w : World) (e : Ending) (w' : World) : Prop := e = .returned (.tuple #[]) ∧ ∃ r, SortedS l r ∧ Hid (RowB w' gr cap r) ∧ Hid (w.grownBy w' (some gr))
theorem sort_any (l : List S) (hl : l.length ≤ 1000000) (gr cap : Nat) (w : World) (hR : RowB w gr cap l) :
    Calls Try.prog 42 #[.slice (some ⟨gr, 0, none⟩) l.length cap, .func (.func 43) #[] #[]] w (SrtP gr cap l w) := by
  have h := AnyQ.slices_SortFunc Try.sortS 2 Try.isAgg33 Try.sizeOf33 encM (fun _ => rfl) (fun m v hv => by simp [encM] at hv; rcases hv with rfl | rfl <;> rfl) cmpT swo_T 43 #[] gr 0 cap l.toArray w entersT
    (fun _ _ _ _ x y => times_any x y _) hR.holds hR.lt (by simp; omega)
  refine h.mono fun e w' ⟨he, d', n, os, hp, hs, hw⟩ => ?_
  have hso := sorted_of hp hs
  have hlen : d'.toList.length = l.length := by have := hso.1.length_eq; simpa using this
  obtain ⟨h1, h2⟩ := hR.sorted (L' := d'.toList) hlen n os
  refine ⟨he, d'.toList, hso, ?_, ?_⟩
  · rw [hw]; exact h1
  · rw [hw]; exact h2
end Go.Proofs.Ytobipbedkkmlcaa.Sr
