
/- Layer 7: a row of matchers that is written over; slices.DeleteFunc. Layer 7: slices.DeleteFunc at matchers. Layer 7: slices.Compact at matchers. The shelf's contracts, laid at this seat's program: no walk, one application each. Layer 7: the order of matchers, of the program. Layer 7: putting in order, simplifying, of the program. Layer 7: Simplify, Implies of the program. Layer 7: Implies of the program. -/
import Derived.Lib.SliceRun
import Derived.Laws.IdiomCopy
import Derived.Test.YtdeppcddknakjaaGreatDoorCXf
import Derived.Shelf.SlGeneric
import Derived.Shelf.SlSortCmp.NoneTotal
import Derived.Shelf.Strings.SlTrimAscii
import Derived.Test.YtdeppcddknakjaaGreatDoorProg
set_option maxRecDepth 100000
set_option linter.unusedVariables false
set_option linter.unusedSimpArgs false
namespace Go.Proofs.YtdeppcddknakjaaGreatDoor.Mx
open Go.RowKit
open Go.Sort (grow)
open Go.Proofs.YtdeppcddknakjaaGreatDoor.Rx (EmpP SameP PreP MatP MatS ChkP pfxS pre check match_any check_any prefix_any empty_any hasPrefix_any emptyS)
open Go.Proofs.YtdeppcddknakjaaGreatDoor.Lab (nameB getL Lb LS take_snocL)
/-- The cells of block g begin with the matchers L. -/
def RowB (w : World) (g cap : Nat) (L : List Mt) : Prop := ∃ cur : Array Value, w.heap[g]? = some (.cells cur 25 (0, 0)) ∧ cur.size = cap * 3 ∧ cap ≤ maxLen ∧ L.length ≤ cap ∧ cur.toList.take (L.length * 3) = cel L
theorem RowB.of_own {w : World} {B g cap : Nat} {n : Nat} {L : List Mt} (h : OwnT w B (.slice (some ⟨g, 0, none⟩) n cap) L) : B ≤ g ∧ n = L.length ∧ RowB w g cap L := by
 rcases h.2 with ⟨h0, _⟩ | ⟨g', cap', cur, hv, hB, h1, h2, h3, h4, h5⟩
 ·cases h0
 ·injection hv with e1 e2 e3
  injection e1 with e1
  injection e1 with e1
  subst e1 e2 e3
  exact ⟨hB, rfl, cur, h1, h4, h3, h2, h5⟩
theorem RowB.own {w : World} {B g cap : Nat} {L : List Mt} (h : RowB w g cap L) (hB : B ≤ g) : OwnT w B (.slice (some ⟨g, 0, none⟩) L.length cap) L := by
 obtain ⟨cur, h1, h2, h3, h4, h5⟩ := h
 exact ⟨by rw [cel_length], .inr ⟨g, cap, cur, rfl, hB, h1, h4, h3, h2, h5⟩⟩
theorem RowB.lt {w : World} {g cap : Nat} {L : List Mt} (h : RowB w g cap L) : g < w.heap.size := by
 obtain ⟨cur, h1, _⟩ := h
 exact (Array.getElem?_eq_some_iff.1 h1).1
theorem RowB.keep {w w' : World} {g cap : Nat} {L : List Mt} (h : RowB w g cap L) (hb : w'.heap[g]? = w.heap[g]?) : RowB w' g cap L := by
 obtain ⟨cur, h1, h2⟩ := h
 exact ⟨cur, hb.trans h1, h2⟩
theorem RowB.up {w w' : World} {g cap : Nat} {L : List Mt} (h : RowB w g cap L) (hb : Below w.heap.size w w') : RowB w' g cap L := h.keep (hb.block g h.lt)
theorem RowB.cell {w : World} {g cap : Nat} {L : List Mt} (h : RowB w g cap L) {j : Nat} (hj : j < L.length) :
  w.cell? ⟨g, j * 3, none⟩ = some (.int .i64 L[j].k) ∧ w.cell? ⟨g, j * 3 + 1, none⟩ = some (.string L[j].n) ∧ w.cell? ⟨g, j * 3 + 2, none⟩ = some (.string L[j].v) ∧
  w.frozen? ⟨g, j * 3, none⟩ = false ∧ w.frozen? ⟨g, j * 3 + 1, none⟩ = false ∧ w.frozen? ⟨g, j * 3 + 2, none⟩ = false := by
 obtain ⟨cur, h1, h2, h3, h4, h5⟩ := h
 obtain ⟨a, b, c⟩ := cel_at L j hj
 have get : ∀ i u, i < L.length * 3 → (cel L)[i]? = some u → cur[i]? = some u := fun i u hi hu => by
  rw [← h5, List.getElem?_take_of_lt hi] at hu
  rw [← hu, Array.getElem?_toList]
 have c1 : ∀ i u, i < L.length * 3 → (cel L)[i]? = some u → w.cell? ⟨g, i, none⟩ = some u := fun i u hi hu => by
  have := get i u hi hu
  simp [World.cell?, h1, this]
 have f1 : ∀ i, w.frozen? ⟨g, i, none⟩ = false := fun i => by simp [World.frozen?, h1]
 exact ⟨c1 _ _ (by omega) a, c1 _ _ (by omega) b, c1 _ _ (by omega) c, f1 _, f1 _, f1 _⟩
theorem cel_set : ∀ (L : List Mt) (j : Nat) (m : Mt), j < L.length → (((cel L).set (j * 3) (.int .i64 m.k)).set (j * 3 + 1) (.string m.n)).set (j * 3 + 2) (.string m.v) = cel (L.set j m)
 | [], j, m, h => by simp at h
 | x :: r, 0, m, _ => by rw [List.set_cons_zero, cel_cons, cel_cons]; rfl
 | x :: r, j + 1, m, h => by
  have ih := cel_set r j m (by simpa using h)
  rw [List.set_cons_succ, cel_cons, cel_cons, ← ih]
  have e1 : (j + 1) * 3 = j * 3 + 1 + 1 + 1 := by omega
  rw [e1]
  simp only [List.set_cons_succ]
theorem setCell_heap {w : World} {g i : Nat} {cur : Array Value} {t : TypeId} (v : Value) (h : w.heap[g]? = some (.cells cur t (0, 0))) : (w.setCell ⟨g, i, none⟩ v).heap[g]? = some (.cells (cur.setIfInBounds i v) t (0, 0)) := by
 simp [World.setCell, Array.getElem?_modify, h]
theorem RowB.set {w : World} {g cap : Nat} {L : List Mt} (h : RowB w g cap L) {j : Nat} (hj : j < L.length) (m : Mt) :
  RowB (((w.setCell ⟨g, j * 3, none⟩ (.int .i64 m.k)).setCell ⟨g, j * 3 + 1, none⟩ (.string m.n)).setCell ⟨g, j * 3 + 2, none⟩ (.string m.v)) g cap (L.set j m) := by
 obtain ⟨cur, h1, h2, h3, h4, h5⟩ := h
 refine ⟨_, setCell_heap _ (setCell_heap _ (setCell_heap _ h1)), by simp [h2], h3, by rw [List.length_set]; exact h4, ?_⟩
 rw [List.length_set, ← cel_set L j m hj, ← h5]
 simp only [Array.toList_setIfInBounds, List.take_set]
theorem set_grown {w : World} (g i : Nat) (v : Value) : w.grownBy (w.setCell ⟨g, i, none⟩ v) (some g) :=
 ⟨rfl, rfl, rfl, by simp [World.setCell], fun b _ hne => Below.heap_setCell _ _ _ _ (fun e => hne (by rw [e]))⟩
theorem sets_grown (g : Nat) : ∀ (vs : List Value) (o : Nat) (w : World), w.grownBy (w.setCells g o vs) (some g)
 | [], o, w => ⟨rfl, rfl, rfl, Nat.le_refl _, fun _ _ _ => rfl⟩
 | v :: r, o, w => (set_grown g o v).trans (sets_grown g r (o + 1) _)
theorem RowB.clear {g cap : Nat} {L : List Mt} : ∀ (vs : List Value) (o : Nat) (w : World), L.length * 3 ≤ o → RowB w g cap L → RowB (w.setCells g o vs) g cap L
 | [], o, w, _, h => h
 | v :: r, o, w, ho, h => by
  refine RowB.clear r (o + 1) _ (by omega) ?_
  obtain ⟨cur, h1, h2, h3, h4, h5⟩ := h
  refine ⟨_, setCell_heap _ h1, by simp [h2], h3, h4, ?_⟩
  rw [Array.toList_setIfInBounds, List.take_set_of_le ho]
  exact h5
theorem RowB.take {w : World} {g cap : Nat} {L : List Mt} (h : RowB w g cap L) (n : Nat) : RowB w g cap (L.take n) := by
 obtain ⟨cur, h1, h2, h3, h4, h5⟩ := h
 refine ⟨cur, h1, h2, h3, Nat.le_trans (List.length_take_le' _ _) h4, ?_⟩
 have e : cel (L.take n) = (cel L).take ((L.take n).length * 3) := by
  have h : cel L = cel (L.take n) ++ cel (L.drop n) := by rw [← cel_append, List.take_append_drop]
  rw [h, List.take_left' (by rw [cel_length])]
 rw [e, ← h5, List.take_take, Nat.min_eq_left (by have := List.length_take_le' n L; omega)]
/-- The cells that 'clear' lays. -/
def zer (n : Nat) : List Value := (Builtin.zeroCells (Value.agg #[.int .i64 0, .string ⟨#[]⟩, .string ⟨#[]⟩]).cells n).toList
theorem zer_length (n : Nat) : (zer n).length = n * 3 := by simp [zer, Builtin.zeroCells, Value.cells]
theorem zer_one (n : Nat) : ∀ u ∈ zer n, u.oneCell' = true := by
 intro u hu
 unfold zer Builtin.zeroCells at hu
 simp only [Array.toList_map, List.mem_map] at hu
 obtain ⟨i, _, rfl⟩ := hu
 have hi : i % 3 < 3 := Nat.mod_lt _ (by omega)
 show ((#[.int .i64 0, .string ⟨#[]⟩, .string ⟨#[]⟩] : Array Value)[i % 3]!).oneCell' = true
 generalize i % 3 = q at hi
 match q, hi with
 | 0, _ => rfl
 | 1, _ => rfl
 | 2, _ => rfl
theorem zero25 (w : World) : (zeroValue 25).run Tryz.prog w = .ok (.agg #[.int .i64 0, .string ⟨#[]⟩, .string ⟨#[]⟩]) w := by kernel_rfl
theorem run_clear25 {w : World} {g cap : Nat} {L : List Mt} (h : RowB w g cap L) {i : Nat} (hi : i < L.length) (c : Nat) (ty : TypeId) :
  (Builtin.clear_ #[22] ty #[.slice (some ⟨g, i * 3, none⟩) (L.length - i) c]).run Tryz.prog w = .ok (.tuple #[]) (w.setCells g (i * 3) (zer (L.length - i))) := by
 have hk : ∀ j, j < (zer (L.length - i)).length → (w.cell? ⟨g, i * 3 + 0 + j, none⟩).isSome = true := fun j hj => by
  rw [zer_length] at hj
  obtain ⟨cur, h1, h2, h3, h4, h5⟩ := h
  have hlt : i * 3 + j < cur.size := by rw [h2]; omega
  simp [World.cell?, h1, hlt]
 have hf : ∀ j, j < (zer (L.length - i)).length → w.frozen? ⟨g, i * 3 + 0 + j, none⟩ = false := fun j _ => by
  obtain ⟨cur, h1, _⟩ := h
  simp [World.frozen?, h1]
 have hst := run_storeCells_cells (P := Tryz.prog) g (i * 3) (zer (L.length - i)) 0 w hk hf (zer_one _)
 obtain ⟨q, hq⟩ : ∃ q, L.length - i = q + 1 := ⟨L.length - i - 1, by omega⟩
 rw [hq] at hst ⊢
 rw [Nat.add_zero] at hst
 unfold zer at hst
 simp [Builtin.clear_, run_underlying Tryz.underlying22, zero25, hst, zer]
end Go.Proofs.YtdeppcddknakjaaGreatDoor.Mx
namespace Go.Proofs.YtdeppcddknakjaaGreatDoor.Mx
open Go.RowKit
open Go.Sort (grow)
open Go.Proofs.YtdeppcddknakjaaGreatDoor.Rx (EmpP SameP PreP MatP MatS ChkP pfxS pre check match_any check_any prefix_any empty_any hasPrefix_any emptyS)
open Go.Proofs.YtdeppcddknakjaaGreatDoor.Lab (nameB getL Lb LS take_snocL)
/-- The first place at which p holds. -/
def IdxQ (p : Mt → Bool) (l : List Mt) (w : World) (e : Ending) (w' : World) : Prop :=
 ∃ i : Int, e = .returned (.int .i64 i) ∧ Hid ((i = -1 ∧ ∀ x ∈ l, p x = false) ∨ ∃ (k : Nat) (hk : k < l.length), i = (k : Int) ∧ p l[k] = true ∧ ∀ j (hj : j < l.length), j < k → p l[j] = false) ∧ Hid (Below w.heap.size w w')
/-- A predicate that a method value decides, whatever is done to the row in block gr. -/
def PredW (g : Nat) (u : Value) (p : Mt → Bool) (l : List Mt) (gr : Nat) (w : World) : Prop := ∀ W x, x ∈ l → w.grownBy W (some gr) → Calls Tryz.prog g #[u, .agg #[.int .i64 x.k, .string x.n, .string x.v]] W (EmpP (p x) W)
set_option maxHeartbeats 2000000 in
theorem idxW_any (g : Nat) (u : Value) (eg : ∀ args w, (callFunc g args).run Tryz.prog w = .ok (.enter g args) w) (p : Mt → Bool) (l : List Mt) (hl : l.length ≤ maxLen) (A : Option Addr) (c : Nat) (w : World) (hL : MS w w.heap.size A l) (hp : PredM g u p l w) :
  Calls Tryz.prog 73 #[.slice A l.length c, .func (.func g) #[u] #[]] w (IdxQ p l w) := by
 unfold maxLen at hl
 have HL := Lib.hid hL
 have HP := Lib.hid hp
 clear hL hp
 go_enter Tryz.func73, Tryz.ntmps73
 go_wp2
 go_loopw [5, 8] (fun _ i wr => ∃ k : Nat, k ≤ l.length ∧ i = .int .i64 k ∧ Hid (∀ j (hj : j < l.length), j < k → p l[j] = false) ∧ Hid (Below w.heap.size w wr)) (fun _ i _ => l.length - (intOf i).toNat)
 case atStart => exact ⟨0, by omega, rfl, fun j _ h => by omega, Below.refl _ _⟩
 case round =>
  obtain ⟨k, hk, rfl, H, HB⟩ := hrel
  by_cases hlt : k < l.length
  ·obtain ⟨b, off, rfl, hb, h1', h2', h3'⟩ := HL.out.at_ hlt
   have h1 := (HB.out.cell (p := ⟨b, off + k * 3, none⟩) hb).trans h1'
   have h2 := (HB.out.cell (p := ⟨b, off + k * 3 + 1, none⟩) hb).trans h2'
   have h3 := (HB.out.cell (p := ⟨b, off + k * 3 + 2, none⟩) hb).trans h3'
   clear h1' h2' h3'
   have C := Lib.hid (HP.out wr l[k] (List.getElem_mem hlt) HB.out)
   cases hq : p l[k] with
   | true =>
    rw [hq] at C
    have HQ := Lib.hid hq
    clear hq
    go_wp2_with (go_at_fn g; (with_reducible refine C.out.mono ?_); rintro e w1 ⟨rfl, b1⟩)
    go_ret
    exact ⟨_, rfl, .inr ⟨k, hlt, rfl, HQ.out, H.out⟩, HB.out.trans (b1.out.mono HB.out.size)⟩
   | false =>
    rw [hq] at C
    have HE : Hid (∀ j (hj : j < l.length), j < k + 1 → p l[j] = false) := fun j hj h => by
     rcases Nat.lt_or_ge j k with h3 | h3
     ·exact H.out j hj h3
     ·obtain rfl : j = k := by omega
      exact hq
    clear H hq
    go_wp2_with (go_at_fn g; (with_reducible refine C.out.mono ?_); rintro e w1 ⟨rfl, b1⟩)
    go_roundw
    case rel => exact ⟨k + 1, by omega, by go_num, HE, HB.out.trans (b1.out.mono HB.out.size)⟩
    case measure => simp [intOf]; omega
  ·obtain rfl : k = l.length := by omega
   go_wp2
   go_ret
   exact ⟨-1, rfl, .inl ⟨rfl, fun x hx => by obtain ⟨j, hj, rfl⟩ := List.getElem_of_mem hx; exact H.out j hj hj⟩, HB⟩
/-- A row that has been written over is returned. -/
def DelP (gr cap : Nat) (r : List Mt) (w : World) (e : Ending) (w' : World) : Prop := e = .returned (.slice (some ⟨gr, 0, none⟩) r.length cap) ∧ Hid (RowB w' gr cap r) ∧ Hid (w.grownBy w' (some gr))
theorem filter_snoc (p : Mt → Bool) (l : List Mt) {j : Nat} (h : j < l.length) : (l.take (j + 1)).filter (fun x => !p x) = (l.take j).filter (fun x => !p x) ++ (if p l[j] = true then [] else [l[j]]) := by
 rw [take_snocL l h, List.filter_append, List.filter_cons]
 cases p l[j] <;> simp
/-- Where DeleteFunc stands. -/
structure DelAt (p : Mt → Bool) (l : List Mt) (w : World) (gr cap : Nat) (i j : Nat) (cur : List Mt) (wr : World) : Prop where
 row : RowB wr gr cap cur
 len : cur.length = l.length
 pre : cur.take i = (l.take j).filter (fun x => !p x)
 suf : cur.drop j = l.drop j
 gr : w.grownBy wr (some gr)
theorem DelAt.at_ {p : Mt → Bool} {l : List Mt} {w : World} {gr cap i j : Nat} {cur : List Mt} {wr : World} (h : DelAt p l w gr cap i j cur wr) (hj : j < l.length) : ∃ hc : j < cur.length, cur[j] = l[j] := by
 have hc : j < cur.length := by rw [h.len]; exact hj
 refine ⟨hc, ?_⟩
 have h1 : (cur.drop j)[0]? = (l.drop j)[0]? := by rw [h.suf]
 rw [List.getElem?_drop, List.getElem?_drop, Nat.add_zero, List.getElem?_eq_getElem hc, List.getElem?_eq_getElem hj] at h1
 injection h1
theorem DelAt.up {p : Mt → Bool} {l : List Mt} {w : World} {gr cap i j : Nat} {cur : List Mt} {wr w' : World} (h : DelAt p l w gr cap i j cur wr) (hb : Below wr.heap.size wr w') : DelAt p l w gr cap i j cur w' :=
 ⟨h.row.up hb, h.len, h.pre, h.suf, h.gr.trans (below_grown hb _)⟩
theorem drop_more {cur l : List Mt} {j : Nat} (h : cur.drop j = l.drop j) : cur.drop (j + 1) = l.drop (j + 1) := by
 rw [← List.drop_drop (i := 1) (j := j), ← List.drop_drop (i := 1) (j := j), h]
theorem DelAt.skip {p : Mt → Bool} {l : List Mt} {w : World} {gr cap i j : Nat} {cur : List Mt} {wr : World} (h : DelAt p l w gr cap i j cur wr) (hj : j < l.length) (hp : p l[j] = true) : DelAt p l w gr cap i (j + 1) cur wr :=
 ⟨h.row, h.len, by rw [filter_snoc p l hj, if_pos hp, List.append_nil]; exact h.pre, drop_more h.suf, h.gr⟩
theorem DelAt.put {p : Mt → Bool} {l : List Mt} {w : World} {gr cap i j : Nat} {cur : List Mt} {wr : World} (h : DelAt p l w gr cap i j cur wr) (hj : j < l.length) (hi : i < j) (m : Mt) (hm : l[j] = m) (hp : p m = false) :
  DelAt p l w gr cap (i + 1) (j + 1) (cur.set i m) (((wr.setCell ⟨gr, i * 3, none⟩ (.int .i64 m.k)).setCell ⟨gr, i * 3 + 1, none⟩ (.string m.n)).setCell ⟨gr, i * 3 + 2, none⟩ (.string m.v)) := by
 have hc : i < cur.length := by rw [h.len]; omega
 subst hm
 refine ⟨h.row.set hc _, by rw [List.length_set]; exact h.len, ?_, ?_, ((h.gr.trans (set_grown _ _ _)).trans (set_grown _ _ _)).trans (set_grown _ _ _)⟩
 ·rw [filter_snoc p l hj, if_neg (by simp [hp]), ← h.pre, List.take_add_one, List.take_set_of_le (Nat.le_refl _), List.getElem?_set_self hc]
  rfl
 ·rw [List.drop_set_of_lt (by omega)]
  exact drop_more h.suf
theorem DelAt.start {p : Mt → Bool} {l : List Mt} {w wr : World} {gr cap k : Nat} (hR : RowB wr gr cap l) (hg : w.grownBy wr (some gr)) (hk : k < l.length) (hp : p l[k] = true) (hb : ∀ j (hj : j < l.length), j < k → p l[j] = false) : DelAt p l w gr cap k (k + 1) l wr := by
 refine ⟨hR, rfl, ?_, rfl, hg⟩
 rw [filter_snoc p l hk, if_pos hp, List.append_nil, List.filter_eq_self.2]
 intro x hx
 obtain ⟨j, hj, rfl⟩ := List.getElem_of_mem hx
 have hj' : j < k := by simp at hj; omega
 rw [List.getElem_take, hb j (by omega) hj']
 rfl
theorem RowB.ms {w : World} {g cap : Nat} {L : List Mt} (h : RowB w g cap L) : MS w w.heap.size (some ⟨g, 0, none⟩) L := fun _ => ⟨g, 0, rfl, h.lt, fun j hj => by
 obtain ⟨a, b, c, _⟩ := h.cell hj
 rw [Nat.zero_add]
 exact ⟨a, b, c⟩⟩
set_option maxHeartbeats 8000000 in
theorem delete_any (gf : Nat) (u : Value) (eg : ∀ args w, (callFunc gf args).run Tryz.prog w = .ok (.enter gf args) w) (p : Mt → Bool) (l : List Mt) (hl : l.length ≤ 1000000) (gr cap : Nat) (w : World) (hR : RowB w gr cap l) (hp : PredW gf u p l gr w) :
  Calls Tryz.prog 50 #[.slice (some ⟨gr, 0, none⟩) l.length cap, .func (.func gf) #[u] #[]] w (DelP gr cap (l.filter fun x => !p x) w) := by
 have HP := Lib.hid hp
 have KI := Lib.hid (idxW_any gf u eg p l (by unfold maxLen; omega) (some ⟨gr, 0, none⟩) cap w hR.ms (fun W x hx hb => hp W x hx (below_grown hb _)))
 have HR := Lib.hid hR
 obtain ⟨r, hr⟩ : ∃ r, r = l.filter fun x => !p x := ⟨_, rfl⟩
 rw [← hr]
 have HF := Lib.hid hr
 clear hp hR hr
 go_enter Tryz.func50, Tryz.ntmps50
 go_wp2_with fail
 refine KI.out.mono ?_
 rintro e w1 ⟨i, rfl, hi, b1⟩
 rcases hi.out with ⟨rfl, hn⟩ | ⟨k, hk, rfl, hpk, hbk⟩
 ·have HE : Hid (r = l) := by
   show _ = _
   rw [HF.out]
   exact List.filter_eq_self.2 fun x hx => by rw [hn x hx]; rfl
  have e1 : ((-1 : Int) == -1) = true := rfl
  clear hn hi
  go_wp2
  go_ret
  exact ⟨by rw [HE.out]; rfl, by rw [HE.out]; exact HR.out.up b1.out, below_grown b1.out _⟩
 ·have H0 := Lib.hid (DelAt.start (w := w) (HR.out.up b1.out) (below_grown b1.out _) hk hpk hbk)
  clear hi hpk hbk
  have e1 : ((k : Int) == -1) = false := bneF (by omega)
  go_wp2
  go_loopw [5, 6] (fun vi vj wr => ∃ (i j : Nat) (cur : List Mt), i < j ∧ j ≤ l.length ∧ vi = .int .i64 i ∧ vj = .int .i64 j ∧ Hid (DelAt p l w gr cap i j cur wr)) (fun _ vj _ => l.length - (intOf vj).toNat)
  case atStart => exact ⟨k, k + 1, l, by omega, by omega, rfl, by go_num, H0⟩
  case round =>
   clear H0
   obtain ⟨i, j, cur, hij, hjl, rfl, rfl, H⟩ := hrel
   by_cases hlt : j < l.length
   ·obtain ⟨hjc, hcj⟩ := H.out.at_ hlt
    obtain ⟨c0, c1, c2, _⟩ := H.out.row.cell hjc
    rw [hcj] at c0 c1 c2
    have HL : Hid (∃ h : j < l.length, l[j] = l[j]) := ⟨hlt, rfl⟩
    obtain ⟨m, hm⟩ : ∃ m, l[j] = m := ⟨_, rfl⟩
    have HM : Hid (∃ h : j < l.length, l[j] = m) := ⟨hlt, hm⟩
    have hml : m ∈ l := by rw [← hm]; exact List.getElem_mem hlt
    have W1 : Hid (Below wr.heap.size wr (wr.alloc (.cells #[.int .i64 m.k, .string m.n, .string m.v] 25))) := (Below.refl _ _).alloc (Nat.le_refl _) _
    have KP := Lib.hid (HP.out (wr.alloc (.cells #[.int .i64 m.k, .string m.n, .string m.v] 25)) m hml (H.out.gr.trans (below_grown W1.out _)))
    have HX := Lib.hid (cell3 (heap_alloc_new wr (.cells #[.int .i64 m.k, .string m.n, .string m.v] 25)))
    rw [hm] at c0 c1 c2
    clear hcj hm hml HL
    cases hq : p m with
    | true =>
     have HS : Hid (∀ V, Below wr.heap.size wr V → DelAt p l w gr cap i (j + 1) cur V) := fun V hV => by
      obtain ⟨h, e⟩ := HM.out
      exact (H.out.up hV).skip h (by rw [e]; exact hq)
     rw [hq] at KP
     clear hq
     go_wp2_with (go_at_fn gf; (with_reducible refine KP.out.mono ?_); rintro e w2 ⟨rfl, b2⟩)
     go_roundw
     case rel => exact ⟨i, j + 1, cur, by omega, by omega, rfl, by go_num, HS.out _ (W1.out.trans (b2.out.mono W1.out.size))⟩
     case measure => simp [intOf]; omega
    | false =>
     have HQ := Lib.hid hq
     rw [hq] at KP
     clear hq
     go_wp2_with fail
     go_at_fn gf
     refine KP.out.mono ?_
     rintro e w2 ⟨rfl, b2⟩
     have W2 : Hid (Below wr.heap.size wr w2) := W1.out.trans (b2.out.mono W1.out.size)
     obtain ⟨hc, hf⟩ := bcell b2.out
     have hz : wr.heap.size < (wr.alloc (.cells #[.int .i64 m.k, .string m.n, .string m.v] 25)).heap.size := by simp
     have d0 := (hc wr.heap.size 0 hz).trans HX.out.1
     have d1 := (hc wr.heap.size 1 hz).trans HX.out.2.1
     have d2 := (hc wr.heap.size 2 hz).trans HX.out.2.2
     clear hc hf
     have hic : i < cur.length := by rw [H.out.len]; omega
     obtain ⟨q0, q1, q2, f0, f1, f2⟩ := (H.out.row.up W2.out).cell hic
     have HS : Hid (DelAt p l w gr cap (i + 1) (j + 1) (cur.set i m) (((w2.setCell ⟨gr, i * 3, none⟩ (.int .i64 m.k)).setCell ⟨gr, i * 3 + 1, none⟩ (.string m.n)).setCell ⟨gr, i * 3 + 2, none⟩ (.string m.v))) := by
      obtain ⟨h, e⟩ := HM.out
      exact (H.out.up W2.out).put h hij m e HQ.out
     have hlen : i < l.length := by omega
     clear c0 c1 c2
     go_wp2
     go_roundw
     case rel => exact ⟨i + 1, j + 1, cur.set i m, by omega, by omega, by go_num, by go_num, HS⟩
     case measure => simp [intOf]; omega
   ·obtain rfl : j = l.length := by omega
    have hic : i < cur.length := by rw [H.out.len]; omega
    have HF2 : Hid (r = cur.take i) := by
     show _ = _
     rw [HF.out, H.out.pre, List.take_length]
    have hcl : ∀ ty, (Builtin.clear_ #[22] ty #[.slice (some ⟨gr, i * 3, none⟩) (l.length - i) (cap - i)]).run Tryz.prog wr = .ok (.tuple #[]) (wr.setCells gr (i * 3) (zer (l.length - i))) := fun ty => by
     have h := run_clear25 H.out.row hic (cap - i) ty
     rwa [H.out.len] at h
    have hcap : l.length ≤ cap := by
     obtain ⟨_, _, _, _, h, _⟩ := H.out.row
     rw [← H.out.len]
     exact h
    have hcap2 : cap ≤ 9223372036854775807 := by
     obtain ⟨_, _, _, h, _⟩ := H.out.row
     unfold maxLen at h
     omega
    have HRF : Hid (RowB (wr.setCells gr (i * 3) (zer (l.length - i))) gr cap (cur.take i)) := RowB.clear _ _ _ (by have := List.length_take_le i cur; omega) (H.out.row.take i)
    have HGF : Hid (w.grownBy (wr.setCells gr (i * 3) (zer (l.length - i))) (some gr)) := H.out.gr.trans (sets_grown _ _ _ _)
    have HLN : Hid ((cur.take i).length = i) := by
     show _ = _
     rw [List.length_take]
     omega
    clear hic
    go_wp2_with fail
    go_ret
    exact ⟨by rw [HF2.out, HLN.out]; rfl, by rw [HF2.out]; exact HRF, HGF⟩
end Go.Proofs.YtdeppcddknakjaaGreatDoor.Mx
namespace Go.Proofs.YtdeppcddknakjaaGreatDoor.Mx
open Go.RowKit
open Go.Sort (grow)
open Go.Proofs.YtdeppcddknakjaaGreatDoor.Rx (EmpP SameP PreP MatP MatS ChkP pfxS pre check match_any check_any prefix_any empty_any hasPrefix_any emptyS)
open Go.Proofs.YtdeppcddknakjaaGreatDoor.Lab (nameB getL Lb LS take_snocL)
theorem cmpc_snoc : ∀ (a : List Mt) (y x : Mt), cmpc ((a ++ [y]) ++ [x]) = if y = x then cmpc (a ++ [y]) else cmpc (a ++ [y]) ++ [x]
 | [], y, x => by
  show cmpc [y, x] = if y = x then cmpc [y] else cmpc [y] ++ [x]
  by_cases h : y = x <;> simp [cmpc, h]
 | [z], y, x => by
  show cmpc [z, y, x] = if y = x then cmpc [z, y] else cmpc [z, y] ++ [x]
  rw [cmpc, cmpc, cmpc]
  by_cases h1 : z = y <;> by_cases h2 : y = x <;> simp [h1, h2, cmpc]
 | z :: z' :: a, y, x => by
  have ih := cmpc_snoc (z' :: a) y x
  show cmpc (z :: z' :: ((a ++ [y]) ++ [x])) = if y = x then cmpc (z :: z' :: (a ++ [y])) else cmpc (z :: z' :: (a ++ [y])) ++ [x]
  have e1 : cmpc (z' :: ((a ++ [y]) ++ [x])) = if y = x then cmpc (z' :: (a ++ [y])) else cmpc (z' :: (a ++ [y])) ++ [x] := ih
  rw [cmpc, cmpc, e1]
  by_cases h1 : z = z' <;> by_cases h2 : y = x <;> simp [h1, h2]
/-- One more element. -/
theorem cmpc_take {l : List Mt} {m : Nat} (h : m + 1 < l.length) : cmpc (l.take (m + 2)) = if l[m] = l[m + 1] then cmpc (l.take (m + 1)) else cmpc (l.take (m + 1)) ++ [l[m + 1]] := by
 rw [take_snocL l h, take_snocL l (show m < l.length by omega)]
 exact cmpc_snoc _ _ _
theorem cmpc_one {l : List Mt} (h : 0 < l.length) : cmpc (l.take 1) = l.take 1 := by
 cases l with
 | nil => simp at h
 | cons x r => rfl
/-- No two of the first k that stand side by side are equal. -/
theorem cmpc_same {l : List Mt} : ∀ {k : Nat}, 1 ≤ k → k ≤ l.length → (∀ j (hj : j + 1 < l.length), j + 1 < k → l[j] ≠ l[j + 1]) → cmpc (l.take k) = l.take k
 | 0, h, _, _ => by omega
 | 1, _, h, _ => cmpc_one (by omega)
 | m + 2, _, h, hn => by
  rw [cmpc_take (by omega), if_neg (hn m (by omega) (by omega)), cmpc_same (by omega) (by omega) (fun j hj hjk => hn j hj (by omega)), ← take_snocL l (by omega)]
/-- Where Compact's inner loop stands. -/
structure CompAt (l : List Mt) (w : World) (gr cap : Nat) (k kk q : Nat) (cur : List Mt) (wr : World) : Prop where
 row : RowB wr gr cap cur
 len : cur.length = l.length
 le : kk ≤ k + q
 pre : cur.take kk = cmpc (l.take (k + q + 1))
 suf : cur.drop (k + q) = l.drop (k + q)
 gr : w.grownBy wr (some gr)
theorem CompAt.at_ {l : List Mt} {w : World} {gr cap k kk q : Nat} {cur : List Mt} {wr : World} (h : CompAt l w gr cap k kk q cur wr) (i : Nat) (hi : k + q + i < l.length) : ∃ hc : k + q + i < cur.length, cur[k + q + i] = l[k + q + i] := by
 have hc : k + q + i < cur.length := by rw [h.len]; exact hi
 refine ⟨hc, ?_⟩
 have h1 : (cur.drop (k + q))[i]? = (l.drop (k + q))[i]? := by rw [h.suf]
 rw [List.getElem?_drop, List.getElem?_drop, List.getElem?_eq_getElem hc, List.getElem?_eq_getElem hi] at h1
 injection h1
theorem CompAt.drewN {l : List Mt} {w : World} {gr cap k kk q : Nat} {cur : List Mt} {wr : World} (h : CompAt l w gr cap k kk q cur wr) (n : Nat) : CompAt l w gr cap k kk q cur (wr.drewN n) :=
 ⟨h.row, h.len, h.le, h.pre, h.suf, ⟨h.gr.os, h.gr.tape, h.gr.output, h.gr.size, h.gr.block⟩⟩
theorem CompAt.skip {l : List Mt} {w : World} {gr cap k kk q : Nat} {cur : List Mt} {wr : World} (h : CompAt l w gr cap k kk q cur wr) (hq : k + q + 1 < l.length) (he : l[k + q] = l[k + q + 1]) : CompAt l w gr cap k kk (q + 1) cur wr :=
 ⟨h.row, h.len, by have := h.le; omega, by rw [show k + (q + 1) + 1 = k + q + 2 by omega, cmpc_take hq, if_pos he]; exact h.pre, drop_more h.suf, h.gr⟩
theorem CompAt.put {l : List Mt} {w : World} {gr cap k kk q : Nat} {cur : List Mt} {wr : World} (h : CompAt l w gr cap k kk q cur wr) (hq : k + q + 1 < l.length) (he : l[k + q] ≠ l[k + q + 1]) :
  CompAt l w gr cap k (kk + 1) (q + 1) (cur.set kk l[k + q + 1]) (((wr.setCell ⟨gr, kk * 3, none⟩ (.int .i64 l[k + q + 1].k)).setCell ⟨gr, kk * 3 + 1, none⟩ (.string l[k + q + 1].n)).setCell ⟨gr, kk * 3 + 2, none⟩ (.string l[k + q + 1].v)) := by
 have hc : kk < cur.length := by rw [h.len]; have := h.le; omega
 refine ⟨h.row.set hc _, by rw [List.length_set]; exact h.len, by have := h.le; omega, ?_, ?_, ((h.gr.trans (set_grown _ _ _)).trans (set_grown _ _ _)).trans (set_grown _ _ _)⟩
 ·rw [show k + (q + 1) + 1 = k + q + 2 by omega, cmpc_take hq, if_neg he, ← h.pre, List.take_add_one, List.take_set_of_le (Nat.le_refl _), List.getElem?_set_self hc]
  rfl
 ·rw [show k + (q + 1) = k + q + 1 by omega, List.drop_set_of_lt (by have := h.le; omega)]
  exact drop_more h.suf
set_option maxHeartbeats 8000000 in
theorem compact_any (l : List Mt) (hl : l.length ≤ 1000000) (gr cap : Nat) (w : World) (hR : RowB w gr cap l) :
  Calls Tryz.prog 54 #[.slice (some ⟨gr, 0, none⟩) l.length cap] w (DelP gr cap (cmpc l) w) := by
 have HR := Lib.hid hR
 obtain ⟨r, hr⟩ : ∃ r, r = cmpc l := ⟨_, rfl⟩
 rw [← hr]
 have HF := Lib.hid hr
 clear hR hr
 by_cases h2 : l.length < 2
 ·have HE : Hid (r = l) := by
   show _ = _
   rw [HF.out]
   match l, h2 with
   | [], _ => rfl
   | [x], _ => rfl
  go_enter Tryz.func54, Tryz.ntmps54
  go_wp2
  go_ret
  exact ⟨by rw [HE.out]; rfl, by rw [HE.out]; exact HR, ⟨rfl, rfl, rfl, Nat.le_refl _, fun _ _ _ => rfl⟩⟩
 ·have h2' : decide ((l.length : Int) < 2) = false := by simp; omega
  have h2'' : decide (l.length < 2) = false := by simp; omega
  have hl2 : 2 ≤ l.length := by omega
  clear h2
  go_enter Tryz.func54, Tryz.ntmps54
  go_wp2
  go_loopw [3] (fun vk wr => ∃ k : Nat, 1 ≤ k ∧ k ≤ l.length ∧ vk = .int .i64 k ∧ Hid (∀ j (hj : j + 1 < l.length), j + 1 < k → l[j] ≠ l[j + 1]) ∧ Hid (∃ n, wr = w.drewN n)) (fun vk _ => l.length - (intOf vk).toNat)
  case atStart => exact ⟨1, by omega, by omega, rfl, fun j hj h => by omega, 0, rfl⟩
  case round =>
   obtain ⟨k, hk1, hkl, rfl, H, hwr⟩ := hrel
   obtain ⟨n, rfl⟩ := hwr.out
   clear hwr
   have HRn : Hid (RowB (w.drewN n) gr cap l) := HR.out
   by_cases hlt : k < l.length
   ·obtain ⟨m, hm⟩ : ∃ m, k = m + 1 := ⟨k - 1, by omega⟩
    have hml : m < l.length := by omega
    have hw : IntKind.i64.wrap ((k : Int) - 1) = (m : Int) := by rw [IntWalk.i64_in _ (by omega)]; omega
    have hm0 : (0 : Int) ≤ (m : Int) := by omega
    obtain ⟨c0, c1, c2, _⟩ := HR.out.cell hlt
    obtain ⟨d0, d1, d2, _⟩ := HR.out.cell hml
    have hne := fun w => eql_mt l[k] l[m] w
    by_cases he : l[k] = l[m]
    ·have H0 : Hid (CompAt l w gr cap k k 0 l (w.drewN n)) := by
      refine ⟨HR.out, rfl, Nat.le_refl _, ?_, rfl, ⟨rfl, rfl, rfl, Nat.le_refl _, fun _ _ _ => rfl⟩⟩
      subst hm
      rw [Nat.add_zero, cmpc_take hlt, if_pos he.symm, cmpc_same hk1 hkl H.out]
     simp only [decide_eq_true he] at hne
     have hcap : l.length ≤ cap := by
      obtain ⟨_, _, _, _, h, _⟩ := HR.out
      exact h
     have hcap2 : cap ≤ 9223372036854775807 := by
      obtain ⟨_, _, _, h, _⟩ := HR.out
      unfold maxLen at h
      exact h
     clear he H hm
     generalize l[k] = xa at *
     generalize l[m] = xb at *
     go_wp2_with fail
     go_quiet (fail)
     have H1 := Lib.hid (H0.out.drewN nq)
     clear H0 hne c0 c1 c2 d0 d1 d2 hw hm0 HRn
     generalize (w.drewN n).drewN nq = w5 at *
     go_wp2_with fail
     go_loopw [3, 5] (fun vk vq wr => ∃ (kk q t : Nat) (cur : List Mt), k + q < l.length ∧ t = q + 1 ∧ vk = .int .i64 kk ∧ vq = .int .i64 (t : Int) ∧ Hid (CompAt l w gr cap k kk q cur wr)) (fun _ vq _ => l.length - (intOf vq).toNat)
     case atStart => exact ⟨k, 0, 1, l, by omega, rfl, rfl, rfl, H1⟩
     case round =>
      clear H1
      obtain ⟨kk, q, t, cur, hkq, ht, rfl, rfl, H⟩ := hrel
      by_cases hlt2 : t < l.length - k
      ·have hq1 : k + q + 1 < l.length := by omega
       obtain ⟨hc1, hcc1⟩ := H.out.at_ 1 hq1
       obtain ⟨hc0, hcc0⟩ := H.out.at_ 0 (by omega)
       obtain ⟨c0, c1, c2, _⟩ := H.out.row.cell hc1
       obtain ⟨d0, d1, d2, _⟩ := H.out.row.cell hc0
       rw [hcc1] at c0 c1 c2
       rw [hcc0] at d0 d1 d2
       rw [show (k + q + 1) * 3 = k * 3 + t * 3 by omega] at c0 c1 c2
       rw [show (k + q + 0) * 3 = k * 3 + q * 3 by omega] at d0 d1 d2
       obtain ⟨xa, hxa⟩ : ∃ xa, xa = l[k + q + 1] := ⟨_, rfl⟩
       obtain ⟨xb, hxb⟩ : ∃ xb, xb = l[k + q] := ⟨_, rfl⟩
       have hxb' : l[k + q + 0] = xb := hxb.symm
       rw [← hxa] at c0 c1 c2
       rw [hxb'] at d0 d1 d2
       have HXA := Lib.hid hxa
       have HXB := Lib.hid hxb
       have hne := fun w => neq_mt xa xb w
       have hw : IntKind.i64.wrap ((t : Int) - 1) = (q : Int) := by rw [IntWalk.i64_in _ (by omega)]; omega
       have hq0 : (0 : Int) ≤ (q : Int) := by omega
       have hkl3 : q < l.length - k := by omega
       have ht0 : Hid (t = q + 1) := ht
       clear hcc1 hcc0 hxa hxb hxb' ht
       by_cases he : xa = xb
       ·have HS : Hid (CompAt l w gr cap k kk (q + 1) cur wr) := H.out.skip hq1 (by rw [← HXA.out, ← HXB.out, he])
        simp only [decide_eq_true he] at hne
        clear he HXA HXB H
        go_wp2_with fail
        go_quiet (fail)
        have HS2 := Lib.hid (HS.out.drewN nq)
        go_wp2_with fail
        go_roundw
        case rel => exact ⟨kk, q + 1, t + 1, cur, by omega, by have := ht0.out; omega, rfl, by go_num, HS2⟩
        case measure => simp [intOf]; omega
       ·have hkk : kk < cur.length := by rw [H.out.len]; have := H.out.le; omega
        have hkl4 : kk < l.length := by rw [← H.out.len]; exact hkk
        have HN := Lib.hid he
        simp only [decide_eq_false he] at hne
        clear he
        go_wp2_with fail
        go_quiet (fail)
        have H2 := Lib.hid (H.out.drewN nq)
        have c0' : (wr.drewN nq).cell? ⟨gr, k * 3 + t * 3, none⟩ = some (.int .i64 xa.k) := c0
        have c1' : (wr.drewN nq).cell? ⟨gr, k * 3 + t * 3 + 1, none⟩ = some (.string xa.n) := c1
        have c2' : (wr.drewN nq).cell? ⟨gr, k * 3 + t * 3 + 2, none⟩ = some (.string xa.v) := c2
        clear c0 c1 c2 d0 d1 d2 H hne
        generalize wr.drewN nq = V at *
        obtain ⟨q0, q1, q2, f0, f1, f2⟩ := H2.out.row.cell hkk
        have HS : Hid (CompAt l w gr cap k (kk + 1) (q + 1) (cur.set kk xa) (((V.setCell ⟨gr, kk * 3, none⟩ (.int .i64 xa.k)).setCell ⟨gr, kk * 3 + 1, none⟩ (.string xa.n)).setCell ⟨gr, kk * 3 + 2, none⟩ (.string xa.v))) := by
         have h := H2.out.put hq1 (by rw [← HXA.out, ← HXB.out]; exact fun e => HN.out e.symm)
         rw [← HXA.out] at h
         exact h
        clear HXA HXB H2 HN
        go_wp2_with fail
        go_roundw
        case rel => exact ⟨kk + 1, q + 1, t + 1, cur.set kk xa, by omega, by have := ht0.out; omega, by go_num, by go_num, HS⟩
        case measure => simp [intOf]; omega
      ·have hkk : kk < cur.length := by rw [H.out.len]; have := H.out.le; omega
       have hkl4 : kk < l.length := by rw [← H.out.len]; exact hkk
       have HF2 : Hid (r = cur.take kk) := by
        show _ = _
        rw [HF.out, H.out.pre, List.take_of_length_le (by omega)]
       have hcl : ∀ ty, (Builtin.clear_ #[22] ty #[.slice (some ⟨gr, kk * 3, none⟩) (l.length - kk) (cap - kk)]).run Tryz.prog wr = .ok (.tuple #[]) (wr.setCells gr (kk * 3) (zer (l.length - kk))) := fun ty => by
        have h := run_clear25 H.out.row hkk (cap - kk) ty
        rwa [H.out.len] at h
       have HRF : Hid (RowB (wr.setCells gr (kk * 3) (zer (l.length - kk))) gr cap (cur.take kk)) := RowB.clear _ _ _ (by have := List.length_take_le kk cur; omega) (H.out.row.take kk)
       have HGF : Hid (w.grownBy (wr.setCells gr (kk * 3) (zer (l.length - kk))) (some gr)) := H.out.gr.trans (sets_grown _ _ _ _)
       have HLN : Hid ((cur.take kk).length = kk) := by
        show _ = _
        rw [List.length_take]
        omega
       clear H hkk
       go_wp2_with fail
       go_ret
       exact ⟨by rw [HF2.out, HLN.out]; rfl, by rw [HF2.out]; exact HRF, HGF⟩
    ·have HE : Hid (∀ j (hj : j + 1 < l.length), j + 1 < k + 1 → l[j] ≠ l[j + 1]) := fun j hj h => by
      rcases Nat.lt_or_ge (j + 1) k with h3 | h3
      ·exact H.out j hj h3
      ·obtain rfl : j = m := by omega
       subst hm
       exact fun e => he e.symm
     simp only [decide_eq_false he] at hne
     clear he H hm
     go_wp2_with fail
     go_quiet (fail)
     go_wp2_with fail
     go_roundw
     case rel => exact ⟨k + 1, by omega, by omega, by go_num, HE, _, rfl⟩
     case measure => simp [intOf]; omega
   ·obtain rfl : k = l.length := by omega
    have HE : Hid (r = l) := by
     show _ = _
     have h := cmpc_same (l := l) (k := l.length) (by omega) (Nat.le_refl _) H.out
     rw [List.take_length] at h
     rw [HF.out, h]
    clear H
    go_wp2
    go_ret
    exact ⟨by rw [HE.out]; rfl, by rw [HE.out]; exact HRn, ⟨rfl, rfl, rfl, Nat.le_refl _, fun _ _ _ => rfl⟩⟩
end Go.Proofs.YtdeppcddknakjaaGreatDoor.Mx
namespace Go.Proofs
open Go.Shelf
def Tryz.sortM_ren : Go.Shelf.Ren := ⟨fun | 6 => 52 | 15 => 81 | 14 => 80 | 28 => 121 | 29 => 122 | 20 => 113 | 21 => 114 | 22 => 115 | 23 => 116 | 24 => 117 | 25 => 118 | 26 => 119 | 27 => 120 | 46 => 148 | 47 => 149 | 48 => 150 | 49 => 151 | 50 => 152 | 57 => 170 | n => n, fun | 22 => 22 | 24 => 25 | 25 => 67 | 3 => 3 | 39 => 84 | 0 => 0 | 53 => 128 | 55 => 130 | 4 => 4 | 46 => 121 | 45 => 120 | 50 => 125 | 5 => 5 | 9 => 9 | 66 => 166 | 70 => 170 | 76 => 191 | 77 => 115 | n => n, fun | n => n⟩
theorem Tryz.sortM : Go.Proofs.SlLaysF0.n6 Tryz.prog Tryz.sortM_ren := {
 mixed := by kernel_rfl
 f6 := ⟨Tryz.f52.name, by decide, Tryz.func52.trans (congrArg some (by kernel_rfl))⟩
 f14 := ⟨Tryz.f80.name, by decide, Tryz.func80.trans (congrArg some (by kernel_rfl))⟩
 f15 := Tryz.func81.trans (congrArg some (by kernel_rfl))
 f20 := ⟨Tryz.f113.name, by decide, Tryz.func113.trans (congrArg some (by kernel_rfl))⟩
 f21 := ⟨Tryz.f114.name, by decide, Tryz.func114.trans (congrArg some (by kernel_rfl))⟩
 f22 := ⟨Tryz.f115.name, by decide, Tryz.func115.trans (congrArg some (by kernel_rfl))⟩
 f23 := ⟨Tryz.f116.name, by decide, Tryz.func116.trans (congrArg some (by kernel_rfl))⟩
 f24 := ⟨Tryz.f117.name, by decide, Tryz.func117.trans (congrArg some (by kernel_rfl))⟩
 f25 := ⟨Tryz.f118.name, by decide, Tryz.func118.trans (congrArg some (by kernel_rfl))⟩
 f26 := ⟨Tryz.f119.name, by decide, Tryz.func119.trans (congrArg some (by kernel_rfl))⟩
 f27 := ⟨Tryz.f120.name, by decide, Tryz.func120.trans (congrArg some (by kernel_rfl))⟩
 f28 := Tryz.func121.trans (congrArg some (by kernel_rfl))
 f29 := Tryz.func122.trans (congrArg some (by kernel_rfl))
 f46 := ⟨Tryz.f148.name, by decide, Tryz.func148.trans (congrArg some (by kernel_rfl))⟩
 f47 := Tryz.func149.trans (congrArg some (by kernel_rfl))
 f48 := Tryz.func150.trans (congrArg some (by kernel_rfl))
 f49 := ⟨Tryz.f151.name, by decide, Tryz.func151.trans (congrArg some (by kernel_rfl))⟩
 f50 := ⟨Tryz.f152.name, by decide, Tryz.func152.trans (congrArg some (by kernel_rfl))⟩
 f57 := ⟨Tryz.f170.name, by decide, Tryz.func170.trans (congrArg some (by kernel_rfl))⟩
 t0 := Tryz.underlying0
 a0 := Tryz.isAgg0
 z0 := Tryz.sizeOf0
 v0 := Tryz.zeroValue0
 t3 := Tryz.underlying3
 a3 := Tryz.isAgg3
 z3 := Tryz.sizeOf3
 v3 := Tryz.zeroValue3
 t4 := Tryz.underlying4
 a4 := Tryz.isAgg4
 z4 := Tryz.sizeOf4
 v4 := Tryz.zeroValue4
 t5 := Tryz.underlying5
 a5 := Tryz.isAgg5
 z5 := Tryz.sizeOf5
 v5 := Tryz.zeroValue5
 t9 := Tryz.underlying9
 a9 := Tryz.isAgg9
 z9 := Tryz.sizeOf9
 v9 := Tryz.zeroValue9
 t22 := Tryz.underlying22
 a22 := Tryz.isAgg22
 z22 := Tryz.sizeOf22
 v22 := Tryz.zeroValue22
 t25 := Tryz.underlying67
 a25 := Tryz.isAgg67
 z25 := Tryz.sizeOf67
 v25 := Tryz.zeroValue67
 t39 := Tryz.underlying84
 a39 := Tryz.isAgg84
 z39 := Tryz.sizeOf84
 v39 := Tryz.zeroValue84
 t45 := Tryz.underlying120
 a45 := Tryz.isAgg120
 z45 := Tryz.sizeOf120
 v45 := Tryz.zeroValue120
 t46 := Tryz.underlying121
 a46 := Tryz.isAgg121
 z46 := Tryz.sizeOf121
 v46 := Tryz.zeroValue121
 t50 := Tryz.underlying125
 a50 := Tryz.isAgg125
 z50 := Tryz.sizeOf125
 v50 := Tryz.zeroValue125
 t53 := Tryz.underlying128
 a53 := Tryz.isAgg128
 z53 := Tryz.sizeOf128
 v53 := Tryz.zeroValue128
 t55 := Tryz.underlying130
 a55 := Tryz.isAgg130
 z55 := Tryz.sizeOf130
 v55 := Tryz.zeroValue130
 t66 := Tryz.underlying166
 a66 := Tryz.isAgg166
 z66 := Tryz.sizeOf166
 v66 := Tryz.zeroValue166
 t70 := Tryz.underlying170
 a70 := Tryz.isAgg170
 z70 := Tryz.sizeOf170
 v70 := Tryz.zeroValue170
 t76 := Tryz.underlying191
 a76 := Tryz.isAgg191
 z76 := Tryz.sizeOf191
 v76 := Tryz.zeroValue191
 t77 := Tryz.underlying115
 a77 := Tryz.isAgg115
 z77 := Tryz.sizeOf115
 v77 := Tryz.zeroValue115 }
def Tryz.trimM_ren : Go.Shelf.Ren := ⟨fun | 161 => 102 | 231 => 139 | 227 => 140 | 233 => 141 | 235 => 142 | 228 => 162 | 197 => 163 | 151 => 164 | 260 => 182 | 152 => 183 | 137 => 188 | 119 => 197 | 224 => 198 | 225 => 199 | 217 => 201 | 266 => 209 | n => n, fun | 9 => 9 | 4 => 4 | 3 => 3 | 5 => 5 | 117 => 154 | 116 => 153 | 0 => 0 | 124 => 157 | 105 => 186 | 21 => 21 | 119 => 218 | 46 => 84 | 139 => 221 | 138 => 220 | n => n, fun | 3 => 1 | 4 => 2 | n => n⟩
theorem Tryz.trimM : Go.Proofs.Lays.n161 Tryz.prog Tryz.trimM_ren := {
 mixed := by kernel_rfl
 f119 := Tryz.func197.trans (congrArg some (by kernel_rfl))
 f137 := Tryz.func188.trans (congrArg some (by kernel_rfl))
 f151 := Tryz.func164.trans (congrArg some (by kernel_rfl))
 f152 := Tryz.func183.trans (congrArg some (by kernel_rfl))
 f161 := Tryz.func102.trans (congrArg some (by kernel_rfl))
 f197 := Tryz.func163.trans (congrArg some (by kernel_rfl))
 f217 := Tryz.func201.trans (congrArg some (by kernel_rfl))
 f224 := Tryz.func198.trans (congrArg some (by kernel_rfl))
 f225 := Tryz.func199.trans (congrArg some (by kernel_rfl))
 f227 := Tryz.func140.trans (congrArg some (by kernel_rfl))
 f228 := Tryz.func162.trans (congrArg some (by kernel_rfl))
 f231 := Tryz.func139.trans (congrArg some (by kernel_rfl))
 f233 := Tryz.func141.trans (congrArg some (by kernel_rfl))
 f235 := Tryz.func142.trans (congrArg some (by kernel_rfl))
 f260 := Tryz.func182.trans (congrArg some (by kernel_rfl))
 f266 := Tryz.func209.trans (congrArg some (by kernel_rfl))
 t0 := Tryz.underlying0
 a0 := Tryz.isAgg0
 z0 := Tryz.sizeOf0
 v0 := Tryz.zeroValue0
 t3 := Tryz.underlying3
 a3 := Tryz.isAgg3
 z3 := Tryz.sizeOf3
 v3 := Tryz.zeroValue3
 t4 := Tryz.underlying4
 a4 := Tryz.isAgg4
 z4 := Tryz.sizeOf4
 v4 := Tryz.zeroValue4
 t5 := Tryz.underlying5
 a5 := Tryz.isAgg5
 z5 := Tryz.sizeOf5
 v5 := Tryz.zeroValue5
 t9 := Tryz.underlying9
 a9 := Tryz.isAgg9
 z9 := Tryz.sizeOf9
 v9 := Tryz.zeroValue9
 t21 := Tryz.underlying21
 a21 := Tryz.isAgg21
 z21 := Tryz.sizeOf21
 v21 := Tryz.zeroValue21
 t46 := Tryz.underlying84
 a46 := Tryz.isAgg84
 z46 := Tryz.sizeOf84
 v46 := Tryz.zeroValue84
 t105 := Tryz.underlying186
 a105 := Tryz.isAgg186
 z105 := Tryz.sizeOf186
 v105 := Tryz.zeroValue186
 t116 := Tryz.underlying153
 a116 := Tryz.isAgg153
 z116 := Tryz.sizeOf153
 t117 := Tryz.underlying154
 a117 := Tryz.isAgg154
 z117 := Tryz.sizeOf154
 v117 := Tryz.zeroValue154
 t119 := Tryz.underlying218
 a119 := Tryz.isAgg218
 z119 := Tryz.sizeOf218
 t124 := Tryz.underlying157
 a124 := Tryz.isAgg157
 z124 := Tryz.sizeOf157
 v124 := Tryz.zeroValue157
 t138 := Tryz.underlying220
 a138 := Tryz.isAgg220
 z138 := Tryz.sizeOf220
 v138 := Tryz.zeroValue220
 t139 := Tryz.underlying221
 a139 := Tryz.isAgg221
 z139 := Tryz.sizeOf221
 v139 := Tryz.zeroValue221
 g3 := by kernel_rfl
 g4 := by kernel_rfl }
end Go.Proofs
namespace Go.Proofs.YtdeppcddknakjaaGreatDoor.Mx
open Go.RowKit
open Go.Sort (grow)
open Go.Proofs.YtdeppcddknakjaaGreatDoor.Rx (EmpP SameP)
open Go.Proofs.YtdeppcddknakjaaGreatDoor.Lab (cmpS cmpstr_any)
theorem nanI_any (a : Int) (w : World) : Calls Tryz.prog 124 #[.int .i64 a] w fun e w' => e = .returned (.bool false) ∧ w = w' := by
 go_enter Tryz.func124, Tryz.ntmps124
 go_wp2
 go_ret
 exact ⟨okE (by simp), rfl⟩
set_option maxHeartbeats 1000000 in
theorem cmpI_any (a b : Int) (w : World) : Calls Tryz.prog 84 #[.int .i64 a, .int .i64 b] w fun e w' => e = .returned (.int .i64 (cmpI a b)) ∧ w = w' := by
 by_cases h1 : a < b
 ·have HE : Hid (cmpI a b = -1) := if_pos h1
  have e1 := decide_eq_true h1
  clear h1
  go_enter Tryz.func84, Tryz.ntmps84
  go_wp2_with (go_at_call 124; (with_reducible refine (nanI_any _ _).mono ?_); rintro e w' ⟨rfl, rfl⟩)
  go_ret
  exact ⟨okI HE.out.symm, rfl⟩
 ·have e1 := decide_eq_false h1
  by_cases h2 : b < a
  ·have HE : Hid (cmpI a b = 1) := (if_neg h1).trans (if_pos h2)
   have e2 := decide_eq_true h2
   clear h1 h2
   go_enter Tryz.func84, Tryz.ntmps84
   go_wp2_with (go_at_call 124; (with_reducible refine (nanI_any _ _).mono ?_); rintro e w' ⟨rfl, rfl⟩)
   go_ret
   exact ⟨okI HE.out.symm, rfl⟩
  ·have HE : Hid (cmpI a b = 0) := (if_neg h1).trans (if_neg h2)
   have e2 := decide_eq_false h2
   clear h1 h2
   go_enter Tryz.func84, Tryz.ntmps84
   go_wp2_with (go_at_call 124; (with_reducible refine (nanI_any _ _).mono ?_); rintro e w' ⟨rfl, rfl⟩)
   go_ret
   exact ⟨okI HE.out.symm, rfl⟩
set_option maxHeartbeats 2000000 in
theorem or3_any (x y z : Int) (b : Nat) (w : World) (h0 : w.cell? ⟨b, 0, none⟩ = some (.int .i64 x)) (h1 : w.cell? ⟨b, 1, none⟩ = some (.int .i64 y)) (h2 : w.cell? ⟨b, 2, none⟩ = some (.int .i64 z)) :
  Calls Tryz.prog 82 #[.slice (some ⟨b, 0, none⟩) 3 3] w fun e w' => e = .returned (.int .i64 (orI x (orI y z))) ∧ w = w' := by
 have H0 := Lib.hid h0
 have H1 := Lib.hid h1
 have H2 := Lib.hid h2
 clear h0 h1 h2
 go_enter Tryz.func82, Tryz.ntmps82
 go_wp2
 go_loop [8] (fun i => (i = .int .i64 0) ∨ (i = .int .i64 1 ∧ Hid (x = 0)) ∨ (i = .int .i64 2 ∧ Hid (x = 0) ∧ Hid (y = 0)) ∨ (i = .int .i64 3 ∧ Hid (x = 0) ∧ Hid (y = 0) ∧ Hid (z = 0))) (fun i => 3 - (intOf i).toNat)
 case atStart => exact .inl rfl
 case round =>
  rcases hrel with rfl | ⟨rfl, hx⟩ | ⟨rfl, hx, hy⟩ | ⟨rfl, hx, hy, hz⟩
  ·have h0 := H0.out
   by_cases hx : x = 0
   ·have HX := Lib.hid hx
    have hb : (x != 0) = false := by simp [hx]
    clear hx
    go_wp2
    go_round
    case rel => exact .inr (.inl ⟨rfl, HX⟩)
    case measure => simp [intOf]
   ·have HX : Hid (orI x (orI y z) = x) := if_neg hx
    have hb : (x != 0) = true := by simp [hx]
    clear hx
    go_wp2
    go_ret
    exact ⟨okI HX.out.symm, rfl⟩
  ·have h1 := H1.out
   by_cases hy : y = 0
   ·have HY := Lib.hid hy
    have hb : (y != 0) = false := by simp [hy]
    clear hy
    go_wp2
    go_round
    case rel => exact .inr (.inr (.inl ⟨rfl, hx, HY⟩))
    case measure => simp [intOf]
   ·have HX : Hid (orI x (orI y z) = y) := (if_pos hx.out : orI x (orI y z) = orI y z).trans (if_neg hy)
    have hb : (y != 0) = true := by simp [hy]
    clear hy
    go_wp2
    go_ret
    exact ⟨okI HX.out.symm, rfl⟩
  ·have h2 := H2.out
   by_cases hz : z = 0
   ·have HY := Lib.hid hz
    have hb : (z != 0) = false := by simp [hz]
    clear hz
    go_wp2
    go_round
    case rel => exact .inr (.inr (.inr ⟨rfl, hx, hy, HY⟩))
    case measure => simp [intOf]
   ·have HX : Hid (orI x (orI y z) = z) := (if_pos hx.out : orI x (orI y z) = orI y z).trans (if_pos hy.out)
    have hb : (z != 0) = true := by simp [hz]
    clear hz
    go_wp2
    go_ret
    exact ⟨okI HX.out.symm, rfl⟩
  ·have HX : Hid (orI x (orI y z) = 0) := ((if_pos hx.out : orI x (orI y z) = orI y z).trans (if_pos hy.out)).trans hz.out
   go_wp2
   go_ret
   exact ⟨okI HX.out.symm, rfl⟩
set_option maxHeartbeats 8000000 in
theorem compare_any (x y : Mt) (w : World) : Calls Tryz.prog 53 #[.agg #[.int .i64 x.k, .string x.n, .string x.v], .agg #[.int .i64 y.k, .string y.n, .string y.v]] w fun e w' => e = .returned (.int .i64 (cmpM x y)) ∧ ∃ q os', w' = grow (w.drewN q) os' := by
 have HX : Hid (orI (cmpS x.n y.n) (orI (cmpI x.k y.k) (cmpS x.v y.v)) = cmpM x y) := rfl
 obtain ⟨xk, xn, xv⟩ := x
 obtain ⟨yk, yn, yv⟩ := y
 have T1 := Lib.hid (cmpstr_any xn yn)
 have T2 := Lib.hid (cmpI_any xk yk)
 have T3 := Lib.hid (cmpstr_any xv yv)
 simp only at HX ⊢
 generalize cmpM ⟨xk, xn, xv⟩ ⟨yk, yn, yv⟩ = z at *
 generalize cmpS xn yn = p at *
 generalize cmpI xk yk = q at *
 generalize cmpS xv yv = s at *
 have hS : ((w.alloc (.cells #[.int .i64 xk, .string xn, .string xv] 25)).alloc (.cells #[.int .i64 yk, .string yn, .string yv] 25)).drew.cell? ⟨w.heap.size, 0, none⟩ = some (.int .i64 xk) ∧ ((w.alloc (.cells #[.int .i64 xk, .string xn, .string xv] 25)).alloc (.cells #[.int .i64 yk, .string yn, .string yv] 25)).drew.cell? ⟨w.heap.size, 1, none⟩ = some (.string xn) ∧ ((w.alloc (.cells #[.int .i64 xk, .string xn, .string xv] 25)).alloc (.cells #[.int .i64 yk, .string yn, .string yv] 25)).drew.cell? ⟨w.heap.size, 2, none⟩ = some (.string xv) ∧ ((w.alloc (.cells #[.int .i64 xk, .string xn, .string xv] 25)).alloc (.cells #[.int .i64 yk, .string yn, .string yv] 25)).drew.cell? ⟨w.heap.size + 1, 0, none⟩ = some (.int .i64 yk) ∧ ((w.alloc (.cells #[.int .i64 xk, .string xn, .string xv] 25)).alloc (.cells #[.int .i64 yk, .string yn, .string yv] 25)).drew.cell? ⟨w.heap.size + 1, 1, none⟩ = some (.string yn) ∧ ((w.alloc (.cells #[.int .i64 xk, .string xn, .string xv] 25)).alloc (.cells #[.int .i64 yk, .string yn, .string yv] 25)).drew.cell? ⟨w.heap.size + 1, 2, none⟩ = some (.string yv) := by
  refine ⟨by go_simp, by go_simp, by go_simp, by go_simp, by go_simp, by go_simp⟩
 have HS := Lib.hid hS
 have HS1 : Hid ((((w.alloc (.cells #[.int .i64 xk, .string xn, .string xv] 25)).alloc (.cells #[.int .i64 yk, .string yn, .string yv] 25)).drew.alloc (.cells #[.int .i64 p, .int .i64 q, .int .i64 s] 3)).cell? ⟨w.heap.size, 0, none⟩ = some (.int .i64 xk) ∧ (((w.alloc (.cells #[.int .i64 xk, .string xn, .string xv] 25)).alloc (.cells #[.int .i64 yk, .string yn, .string yv] 25)).drew.alloc (.cells #[.int .i64 p, .int .i64 q, .int .i64 s] 3)).cell? ⟨w.heap.size, 1, none⟩ = some (.string xn) ∧ (((w.alloc (.cells #[.int .i64 xk, .string xn, .string xv] 25)).alloc (.cells #[.int .i64 yk, .string yn, .string yv] 25)).drew.alloc (.cells #[.int .i64 p, .int .i64 q, .int .i64 s] 3)).cell? ⟨w.heap.size, 2, none⟩ = some (.string xv) ∧ (((w.alloc (.cells #[.int .i64 xk, .string xn, .string xv] 25)).alloc (.cells #[.int .i64 yk, .string yn, .string yv] 25)).drew.alloc (.cells #[.int .i64 p, .int .i64 q, .int .i64 s] 3)).cell? ⟨w.heap.size + 1, 0, none⟩ = some (.int .i64 yk) ∧ (((w.alloc (.cells #[.int .i64 xk, .string xn, .string xv] 25)).alloc (.cells #[.int .i64 yk, .string yn, .string yv] 25)).drew.alloc (.cells #[.int .i64 p, .int .i64 q, .int .i64 s] 3)).cell? ⟨w.heap.size + 1, 1, none⟩ = some (.string yn) ∧ (((w.alloc (.cells #[.int .i64 xk, .string xn, .string xv] 25)).alloc (.cells #[.int .i64 yk, .string yn, .string yv] 25)).drew.alloc (.cells #[.int .i64 p, .int .i64 q, .int .i64 s] 3)).cell? ⟨w.heap.size + 1, 2, none⟩ = some (.string yv)) := by
  refine ⟨by go_simp, by go_simp, by go_simp, by go_simp, by go_simp, by go_simp⟩
 have OR := Lib.hid (fun W (h : W = (((w.alloc (.cells #[.int .i64 xk, .string xn, .string xv] 25)).alloc (.cells #[.int .i64 yk, .string yn, .string yv] 25)).drew.alloc (.cells #[.int .i64 p, .int .i64 q, .int .i64 s] 3))) => or3_any p q s (w.heap.size + 1 + 1) W (by rw [h]; go_simp) (by rw [h]; go_simp) (by rw [h]; go_simp))
 have HB : Hid (∃ n os, (((w.alloc (.cells #[.int .i64 xk, .string xn, .string xv] 25)).alloc (.cells #[.int .i64 yk, .string yn, .string yv] 25)).drew.alloc (.cells #[.int .i64 p, .int .i64 q, .int .i64 s] 3)) = grow (w.drewN n) os) := ⟨1, _, by rw [Go.Sort.alloc_eq_grow, Go.Sort.alloc_eq_grow, Go.Sort.alloc_eq_grow, Go.Sort.grow_grow]; show grow (grow (w.drewN 1) _) _ = _; rw [Go.Sort.grow_grow]⟩
 clear hS
 go_enter Tryz.func53, Tryz.ntmps53
 go_upto_region 1 with fail
 refine wp_region_held_drew (S := (fun V => V.cell? ⟨w.heap.size, 0, none⟩ = some (.int .i64 xk) ∧ V.cell? ⟨w.heap.size, 1, none⟩ = some (.string xn) ∧ V.cell? ⟨w.heap.size, 2, none⟩ = some (.string xv) ∧ V.cell? ⟨w.heap.size + 1, 0, none⟩ = some (.int .i64 yk) ∧ V.cell? ⟨w.heap.size + 1, 1, none⟩ = some (.string yn) ∧ V.cell? ⟨w.heap.size + 1, 2, none⟩ = some (.string yv))) (by kernel_rfl) HS.out (fun hHeld => ?_)
 refine wpAnyH_take (i := 0) (v := _) rfl (by kernel_rfl) (by kernel_rfl) (by kernel_rfl) (fun _ _ _ h => h) (Or.inl ⟨by rfl, by intro w hSw; (try dsimp only at hSw); obtain ⟨_, _, _, _, _, _⟩ := hSw; go_simp; try (with_reducible rfl)⟩) (by assumption) ?_
 try simp only [Act.put, List.setIfInBounds_toArray, List.set_cons_zero, List.set_cons_succ]
 refine wpAnyH_take (i := 1) (v := _) rfl (by kernel_rfl) (by kernel_rfl) (by kernel_rfl) (fun _ _ _ h => h) (Or.inl ⟨by rfl, by intro w hSw; (try dsimp only at hSw); obtain ⟨_, _, _, _, _, _⟩ := hSw; go_simp; try (with_reducible rfl)⟩) (by assumption) ?_
 try simp only [Act.put, List.setIfInBounds_toArray, List.set_cons_zero, List.set_cons_succ]
 refine wpAnyH_take (i := 2) (v := _) rfl (by kernel_rfl) (by kernel_rfl) (by kernel_rfl) (fun _ _ _ h => h) (Or.inl ⟨by rfl, by intro w hSw; (try dsimp only at hSw); obtain ⟨_, _, _, _, _, _⟩ := hSw; go_simp; try (with_reducible rfl)⟩) (by assumption) ?_
 try simp only [Act.put, List.setIfInBounds_toArray, List.set_cons_zero, List.set_cons_succ]
 refine wpAnyH_take (i := 3) (v := _) rfl (by kernel_rfl) (by kernel_rfl) (by kernel_rfl) (fun _ _ _ h => h) (Or.inl ⟨by rfl, by intro w hSw; (try dsimp only at hSw); obtain ⟨_, _, _, _, _, _⟩ := hSw; go_simp; try (with_reducible rfl)⟩) (by assumption) ?_
 try simp only [Act.put, List.setIfInBounds_toArray, List.set_cons_zero, List.set_cons_succ]
 refine wpAnyH_take (i := 5) (v := _) rfl (by kernel_rfl) (by kernel_rfl) (by kernel_rfl) (fun _ _ _ h => h) (Or.inl ⟨by rfl, by intro w hSw; (try dsimp only at hSw); obtain ⟨_, _, _, _, _, _⟩ := hSw; go_simp; try (with_reducible rfl)⟩) (by assumption) ?_
 try simp only [Act.put, List.setIfInBounds_toArray, List.set_cons_zero, List.set_cons_succ]
 refine wpAnyH_take (i := 6) (v := _) rfl (by kernel_rfl) (by kernel_rfl) (by kernel_rfl) (fun _ _ _ h => h) (Or.inl ⟨by rfl, by intro w hSw; (try dsimp only at hSw); obtain ⟨_, _, _, _, _, _⟩ := hSw; go_simp; try (with_reducible rfl)⟩) (by assumption) ?_
 try simp only [Act.put, List.setIfInBounds_toArray, List.set_cons_zero, List.set_cons_succ]
 refine wpAnyH_take (i := 7) (v := _) rfl (by kernel_rfl) (by kernel_rfl) (by kernel_rfl) (fun _ _ _ h => h) (Or.inl ⟨by rfl, by intro w hSw; (try dsimp only at hSw); obtain ⟨_, _, _, _, _, _⟩ := hSw; go_simp; try (with_reducible rfl)⟩) (by assumption) ?_
 try simp only [Act.put, List.setIfInBounds_toArray, List.set_cons_zero, List.set_cons_succ]
 refine wpAnyH_take (i := 8) (v := _) rfl (by kernel_rfl) (by kernel_rfl) (by kernel_rfl) (fun _ _ _ h => h) (Or.inl ⟨by rfl, by intro w hSw; (try dsimp only at hSw); obtain ⟨_, _, _, _, _, _⟩ := hSw; go_simp; try (with_reducible rfl)⟩) (by assumption) ?_
 try simp only [Act.put, List.setIfInBounds_toArray, List.set_cons_zero, List.set_cons_succ]
 refine wpAnyH_take (i := 10) (v := _) rfl (by kernel_rfl) (by kernel_rfl) (by kernel_rfl) (fun _ _ _ h => h) (Or.inl ⟨by rfl, by intro w hSw; (try dsimp only at hSw); obtain ⟨_, _, _, _, _, _⟩ := hSw; go_simp; try (with_reducible rfl)⟩) (by assumption) ?_
 try simp only [Act.put, List.setIfInBounds_toArray, List.set_cons_zero, List.set_cons_succ]
 refine wpAnyH_take (i := 11) (v := _) rfl (by kernel_rfl) (by kernel_rfl) (by kernel_rfl) (fun _ _ _ h => h) (Or.inl ⟨by rfl, by intro w hSw; (try dsimp only at hSw); obtain ⟨_, _, _, _, _, _⟩ := hSw; go_simp; try (with_reducible rfl)⟩) (by assumption) ?_
 try simp only [Act.put, List.setIfInBounds_toArray, List.set_cons_zero, List.set_cons_succ]
 refine wpAnyH_take (i := 12) (v := _) rfl (by kernel_rfl) (by kernel_rfl) (by kernel_rfl) (fun _ _ _ h => h) (Or.inl ⟨by rfl, by intro w hSw; (try dsimp only at hSw); obtain ⟨_, _, _, _, _, _⟩ := hSw; go_simp; try (with_reducible rfl)⟩) (by assumption) ?_
 try simp only [Act.put, List.setIfInBounds_toArray, List.set_cons_zero, List.set_cons_succ]
 refine wpAnyH_take (i := 13) (v := _) rfl (by kernel_rfl) (by kernel_rfl) (by kernel_rfl) (fun _ _ _ h => h) (Or.inl ⟨by rfl, by intro w hSw; (try dsimp only at hSw); obtain ⟨_, _, _, _, _, _⟩ := hSw; go_simp; try (with_reducible rfl)⟩) (by assumption) ?_
 try simp only [Act.put, List.setIfInBounds_toArray, List.set_cons_zero, List.set_cons_succ]
 refine wpAnyH_ready (rs := [4]) (by kernel_rfl) (by simp) ?_
 refine AllReadyH.cons rfl (fun K hK => ?_) AllReadyH.nil
 go_simp
 go_at_call 83
 with_reducible refine Calls.mono (T1.out _) ?_
 rintro e wq ⟨rfl, rfl⟩
 refine hK.out _ _ (by assumption) (fun hHeld => ?_)
 clear hK K
 try simp only [Act.put, List.setIfInBounds_toArray, List.set_cons_zero, List.set_cons_succ]
 refine wpAnyH_ready (rs := [9]) (by kernel_rfl) (by simp) ?_
 refine AllReadyH.cons rfl (fun K hK => ?_) AllReadyH.nil
 go_simp
 go_at_call 84
 with_reducible refine Calls.mono (T2.out _) ?_
 rintro e wq ⟨rfl, rfl⟩
 refine hK.out _ _ (by assumption) (fun hHeld => ?_)
 clear hK K
 try simp only [Act.put, List.setIfInBounds_toArray, List.set_cons_zero, List.set_cons_succ]
 refine wpAnyH_ready (rs := [14]) (by kernel_rfl) (by simp) ?_
 refine AllReadyH.cons rfl (fun K hK => ?_) AllReadyH.nil
 go_simp
 go_at_call 83
 with_reducible refine Calls.mono (T3.out _) ?_
 rintro e wq ⟨rfl, rfl⟩
 refine hK.out _ _ (by assumption) (fun hHeld => ?_)
 clear hK K
 try simp only [Act.put, List.setIfInBounds_toArray, List.set_cons_zero, List.set_cons_succ]
 refine wpAnyH_ready (rs := [15]) (by kernel_rfl) (by simp) ?_
 refine AllReadyH.cons rfl (fun K hK => ?_) AllReadyH.nil
 go_simp
 refine hK.out _ _ (HS1.out) (fun hHeld => ?_)
 clear hK K
 try simp only [Act.put, List.setIfInBounds_toArray, List.set_cons_zero, List.set_cons_succ]
 refine wpAnyH_ready (rs := [16]) (by kernel_rfl) (by simp) ?_
 refine AllReadyH.cons rfl (fun K hK => ?_) AllReadyH.nil
 go_simp
 go_at_call 82
 with_reducible refine Calls.mono (OR.out _ rfl) ?_
 rintro e wq ⟨rfl, rfl⟩
 refine hK.out _ _ (by assumption) (fun hHeld => ?_)
 clear hK K
 try simp only [Act.put, List.setIfInBounds_toArray, List.set_cons_zero, List.set_cons_succ]
 refine wpAnyH_ready (rs := [17]) (by kernel_rfl) (by simp) ?_
 refine AllReadyH.cons rfl (fun K hK => ?_) AllReadyH.nil
 go_simp
 refine hK.out _ _ (by assumption) (fun hHeld => ?_)
 clear hK K
 try simp only [Act.put, List.setIfInBounds_toArray, List.set_cons_zero, List.set_cons_succ]
 refine wpAnyH_done (by kernel_rfl) ?_ _
 go_wp2
 go_ret
 obtain ⟨n, os, hw⟩ := HB.out
 exact ⟨by rw [HX.out]; rfl, n, os, hw⟩
end Go.Proofs.YtdeppcddknakjaaGreatDoor.Mx
namespace Go.Proofs.YtdeppcddknakjaaGreatDoor.Mx
open Go.RowKit
open Go.Sort (grow SWO)
open Go.Proofs (ltOf)
open Go.Proofs.YtdeppcddknakjaaGreatDoor.Rx (EmpP SameP PreP MatP MatS ChkP pfxS pre check)
open Go.Proofs.YtdeppcddknakjaaGreatDoor.Lab (nameB getL Lb LS take_snocL)
instance : Inhabited Mt := ⟨⟨0, ⟨#[]⟩, ⟨#[]⟩⟩⟩
def encM (m : Mt) : List Value := [.int .i64 m.k, .string m.n, .string m.v]
theorem flat_get (L : List Mt) (t : Nat) (ht : t < L.length * 3) : (encM (L.toArray[t / 3]!))[t % 3]! = (cel L)[t]'(by rw [cel_length]; exact ht) := by
 have hj : t / 3 < L.length := by omega
 have e : L.toArray[t / 3]! = L[t / 3] := by simp [hj]
 rw [e]
 obtain ⟨a, b, c⟩ := cel_at L (t / 3) hj
 have hr : t % 3 < 3 := Nat.mod_lt _ (by omega)
 have get : ∀ q u, t % 3 = q → (cel L)[t / 3 * 3 + q]? = some u → (encM L[t / 3])[q]! = u → (encM L[t / 3])[t % 3]! = (cel L)[t]'(by rw [cel_length]; exact ht) := fun q u hq hu he => by
  have ht3 : t / 3 * 3 + q = t := by omega
  rw [hq, he]
  have h := hu
  simp only [ht3] at h
  rw [List.getElem?_eq_getElem (by rw [cel_length]; exact ht)] at h
  injection h with h
  exact h.symm
 match h : t % 3, hr with
 | 0, _ => rw [← h]; exact get 0 _ h a rfl
 | 1, _ => rw [← h]; exact get 1 _ h b rfl
 | 2, _ => rw [← h]; exact get 2 _ h c rfl
theorem flat_cel (L : List Mt) : (Go.Sort.flatK encM 3 L.toArray).toList = cel L := by
 apply List.ext_getElem
 ·rw [Array.length_toList, Go.Sort.size_flatK, cel_length]; simp
 ·intro t h1 h2
  have ht : t < L.length * 3 := by rw [cel_length] at h2; exact h2
  have h := Go.Sort.get_flatK encM 3 L.toArray t (by simpa using ht)
  rw [Array.getElem_toList, ← flat_get L t ht, ← h]
  exact (getElem!_pos _ _ (by simpa using ht)).symm
theorem RowB.holds {w : World} {g cap : Nat} {L : List Mt} (h : RowB w g cap L) : Go.Sort.HoldsK encM 3 w g 0 L.toArray := by
 intro i hi
 have hi' : i < L.length * 3 := by simpa using hi
 obtain ⟨cur, h1, h2, h3, h4, h5⟩ := h
 have e : (Go.Sort.flatK encM 3 L.toArray)[i]! = (cel L)[i]'(by rw [cel_length]; exact hi') := by
  rw [Go.Sort.get_flatK encM 3 L.toArray i (by simpa using hi'), flat_get L i hi']
 have hc : cur[i]? = some ((cel L)[i]'(by rw [cel_length]; exact hi')) := by
  have h6 : (cel L)[i]? = some ((cel L)[i]'(by rw [cel_length]; exact hi')) := List.getElem?_eq_getElem _
  rw [← h6, ← h5, List.getElem?_take_of_lt hi', Array.getElem?_toList]
 refine ⟨?_, by simp [World.frozen?, h1]⟩
 rw [e, Nat.zero_add]
 simp [World.cell?, h1, hc]
theorem RowB.sorted {w : World} {g cap : Nat} {L L' : List Mt} (h : RowB w g cap L) (hl : L'.length = L.length) (n : Nat) (os : Array Obj) : RowB (sortWorldK encM 3 w g 0 n L'.toArray os) g cap L' ∧ w.grownBy (sortWorldK encM 3 w g 0 n L'.toArray os) (some g) := by
 have hlt := h.lt
 obtain ⟨cur, h1, h2, h3, h4, h5⟩ := h
 have hs : (Go.Sort.putRowK encM 3 (Go.Sort.ahead w n) g 0 L'.toArray).heap.size = w.heap.size := by
  simp [Go.Sort.putRowK, Go.Sort.putRow, Go.Sort.mapBlock, Go.Sort.ahead]
 have hg : (sortWorldK encM 3 w g 0 n L'.toArray os).heap[g]? = some (.cells (Go.Sort.putCells id 0 (Go.Sort.flatK encM 3 L'.toArray) cur) 25 (0, 0)) := by
  unfold sortWorldK grow
  simp only
  rw [Array.getElem?_append_left (by rw [hs]; exact hlt)]
  simp [Go.Sort.putRowK, Go.Sort.putRow, Go.Sort.mapBlock, Go.Sort.ahead, Array.getElem?_modify, h1, Go.Sort.onCells]
 refine ⟨⟨_, hg, by simp [Go.Sort.putCells, h2], h3, by omega, ?_⟩, rfl, rfl, rfl, ?_, ?_⟩
 ·rw [← flat_cel L']
  apply List.ext_getElem
  ·rw [List.length_take, Array.length_toList, Array.length_toList]
   have e2 : (Go.Sort.flatK encM 3 L'.toArray).toList.length = L'.length * 3 := by rw [Array.length_toList, Go.Sort.size_flatK]; simp
   rw [e2]
   have e : (Go.Sort.putCells id 0 (Go.Sort.flatK encM 3 L'.toArray) cur).size = cur.size := by simp [Go.Sort.putCells]
   rw [e, h2]
   simp only [List.size_toArray]
   omega
  ·intro t a b
   have ht : t < L'.length * 3 := by rw [Array.length_toList, Go.Sort.size_flatK] at b; simpa using b
   rw [List.getElem_take, Array.getElem_toList, Array.getElem_toList]
   simp only [Go.Sort.putCells, Array.getElem_mapIdx]
   rw [if_pos (by simp; exact ht)]
   simp only [Nat.sub_zero, id]
   exact getElem!_pos _ _ (by simpa using ht)
 ·unfold sortWorldK grow
  simp [hs]
 ·intro b hb hne
  unfold sortWorldK grow
  simp only
  rw [Array.getElem?_append_left (by rw [hs]; exact hb)]
  have hgb : g ≠ b := fun e => hne (by rw [e])
  simp [Go.Sort.putRowK, Go.Sort.putRow, Go.Sort.mapBlock, Go.Sort.ahead, Array.getElem?_modify, hgb]
theorem ltOf_M (x y : Mt) : ltOf cmpM x y = decide (cmpM x y < 0) := rfl
theorem swo_M : SWO (ltOf cmpM) where
 irrefl x := by rw [ltOf_M]; exact decide_eq_false (ltM_irr x)
 trans x y z h1 h2 := by
  rw [ltOf_M, decide_eq_true_iff] at *
  exact ltM_trans h1 h2
 ntrans x y z h1 h2 := by
  rw [ltOf_M, decide_eq_false_iff_not] at *
  intro h
  rcases ltM_tot y x with k | k | k
  ·exact h2 (ltM_trans k h)
  ·rw [k] at h2; exact h2 h
  ·exact h1 k
theorem tot_M (x y : Mt) (h1 : ltOf cmpM x y = false) (h2 : ltOf cmpM y x = false) : x = y := by
 rw [ltOf_M, decide_eq_false_iff_not] at *
 rcases ltM_tot x y with k | k | k
 ·exact (h1 k).elim
 ·exact k
 ·exact (h2 k).elim
theorem enters53 : ∀ args w, (callFunc 53 args).run Tryz.prog w = .ok (.enter 53 args) w := enters_of Tryz.func53 (by kernel_rfl) rfl
theorem sort_any (l : List Mt) (hl : l.length ≤ 1000000) (gr cap : Nat) (w : World) (hR : RowB w gr cap l) :
  Calls Tryz.prog 52 #[.slice (some ⟨gr, 0, none⟩) l.length cap, .func (.func 53) #[] #[]] w fun e w' => e = .returned (.tuple #[]) ∧ Hid (RowB w' gr cap (srt l)) ∧ Hid (w.grownBy w' (some gr)) := by
 have h := AnyQ.slices_SortFunc_total Tryz.sortM 3 Tryz.isAgg25 Tryz.sizeOf25 encM (fun _ => rfl) (fun m v hv => by simp [encM] at hv; rcases hv with rfl | rfl | rfl <;> rfl) cmpM swo_M 53 #[] gr 0 cap l.toArray w enters53
  (fun _ _ _ _ x y => compare_any x y _) hR.holds hR.lt (by simp; omega) tot_M
 refine h.mono fun e w' ⟨he, n, os, hw⟩ => ?_
 have e : (l.toArray.toList.mergeSort fun x y => !ltOf cmpM y x) = srt l := rfl
 rw [e] at hw
 obtain ⟨h1, h2⟩ := hR.sorted (L' := srt l) (srt_len l) n os
 exact ⟨he, by rw [hw]; exact h1, by rw [hw]; exact h2⟩
end Go.Proofs.YtdeppcddknakjaaGreatDoor.Mx
namespace Go.Proofs.YtdeppcddknakjaaGreatDoor.Mx
open Go.RowKit
open Go.Sort (grow)
open Go.Proofs.YtdeppcddknakjaaGreatDoor.Rx (EmpP SameP PreP MatP MatS ChkP pfxS pre check pre_len)
open Go.Proofs.YtdeppcddknakjaaGreatDoor.Lab (nameB getL Lb LS take_snocL)
theorem OwnT.cases {w : World} {B : Nat} {v : Value} {l : List Mt} (h : OwnT w B v l) : (v = .slice none 0 0 ∧ l = []) ∨ ∃ g cap, v = .slice (some ⟨g, 0, none⟩) l.length cap ∧ B ≤ g ∧ RowB w g cap l := by
 rcases id h.2 with ⟨rfl, h0⟩ | ⟨g, cap, cur, rfl, hr⟩
 ·exact .inl ⟨rfl, List.length_eq_zero_iff.1 h0⟩
 ·exact .inr ⟨g, cap, rfl, (RowB.of_own h).1, (RowB.of_own h).2.2⟩
/-- A slice is handed back in the row of v. -/
def RowP (v : Value) (B : Nat) (r : List Mt) (w : World) (e : Ending) (w' : World) : Prop := ∃ v', e = .returned v' ∧ v'.ownBlock = v.ownBlock ∧ Hid (OwnT w' B v' r) ∧ Hid (w.grownBy w' v.ownBlock)
theorem grown_same (w : World) (row : Option Nat) : w.grownBy w row := ⟨rfl, rfl, rfl, Nat.le_refl _, fun _ _ _ => rfl⟩
theorem delete_own (gf : Nat) (u : Value) (eg : ∀ args w, (callFunc gf args).run Tryz.prog w = .ok (.enter gf args) w) (p : Mt → Bool) (l : List Mt) (hl : l.length ≤ 1000000) (v : Value) (B : Nat) (w : World) (hO : OwnT w B v l) (hp : ∀ g, v.ownBlock = some g → PredW gf u p l g w) :
  Calls Tryz.prog 50 #[v, .func (.func gf) #[u] #[]] w (RowP v B (l.filter fun x => !p x) w) := by
 rcases hO.cases with ⟨rfl, rfl⟩ | ⟨g, cap, rfl, hB, hR⟩
 ·have KI := Lib.hid (idxW_any gf u eg p [] (Nat.zero_le _) none 0 w (fun h => absurd rfl h) (fun W x hx => by cases hx))
  clear hO hp
  go_enter Tryz.func50, Tryz.ntmps50
  go_wp2_with fail
  refine KI.out.mono ?_
  rintro e w1 ⟨i, rfl, hi, b1⟩
  rcases hi.out with ⟨rfl, hn⟩ | ⟨k, hk, _⟩
  ·have e1 : ((-1 : Int) == -1) = true := rfl
   clear hn hi
   go_wp2
   go_ret
   exact ⟨_, rfl, rfl, OwnT.nil _ _, below_grown b1.out _⟩
  ·exact absurd hk (Nat.not_lt_zero _)
 ·refine (delete_any gf u eg p l hl g cap w hR (hp g rfl)).mono ?_
  rintro e w' ⟨rfl, h1, h2⟩
  exact ⟨_, rfl, rfl, h1.out.own hB, h2.out⟩
/-- A row is put in order. -/
def SrtP (v : Value) (B : Nat) (r : List Mt) (w : World) (e : Ending) (w' : World) : Prop := e = .returned (.tuple #[]) ∧ Hid (OwnT w' B v r) ∧ Hid (w.grownBy w' v.ownBlock)
theorem sort_own (l : List Mt) (hl : l.length ≤ 1000000) (v : Value) (B : Nat) (w : World) (hO : OwnT w B v l) :
  Calls Tryz.prog 52 #[v, .func (.func 53) #[] #[]] w (SrtP v B (srt l) w) := by
 rcases hO.cases with ⟨rfl, rfl⟩ | ⟨g, cap, rfl, hB, hR⟩
 ·refine (AnyF.slices_SortFunc_none { Tryz.sortM with } none 0 _ w).mono ?_
  rintro e w' ⟨rfl, rfl⟩
  have e : srt [] = [] := List.mergeSort_nil
  rw [e]
  exact ⟨rfl, OwnT.nil _ _, grown_same _ _⟩
 ·refine (sort_any l hl g cap w hR).mono ?_
  rintro e w' ⟨rfl, h1, h2⟩
  refine ⟨rfl, ?_, h2.out⟩
  have h := h1.out.own hB
  rw [srt_len] at h
  exact h
theorem compact_own (l : List Mt) (hl : l.length ≤ 1000000) (v : Value) (B : Nat) (w : World) (hO : OwnT w B v l) :
  Calls Tryz.prog 54 #[v] w (RowP v B (cmpc l) w) := by
 rcases hO.cases with ⟨rfl, rfl⟩ | ⟨g, cap, rfl, hB, hR⟩
 ·have e1 : decide ((0 : Int) < 2) = true := rfl
  go_enter Tryz.func54, Tryz.ntmps54
  go_wp2
  go_ret
  exact ⟨_, rfl, rfl, OwnT.nil _ _, grown_same _ _⟩
 ·refine (compact_any l hl g cap w hR).mono ?_
  rintro e w' ⟨rfl, h1, h2⟩
  exact ⟨_, rfl, rfl, h1.out.own hB, h2.out⟩
theorem enters49 : ∀ args w, (callFunc 49 args).run Tryz.prog w = .ok (.enter 49 args) w := enters_of Tryz.func49 (by kernel_rfl) rfl
theorem enters51 : ∀ args w, (callFunc 51 args).run Tryz.prog w = .ok (.enter 51 args) w := enters_of Tryz.func51 (by kernel_rfl) rfl
theorem enters59 : ∀ args w, (callFunc 59 args).run Tryz.prog w = .ok (.enter 59 args) w := enters_of Tryz.func59 (by kernel_rfl) rfl
theorem lit_v (m : Mt) : (lit m).v.size ≤ m.v.size := by
 rcases lit_cases m with ⟨h, _⟩ | ⟨_, _, h⟩
 ·rw [h]; exact Nat.le_refl _
 ·rw [h]
  show (preS m.v).1.size ≤ _
  have h2 := pre_len m.v.data.toList
  show (preS m.v).1.data.size ≤ m.v.data.size
  rw [← Array.length_toList, ← Array.length_toList]
  exact h2
theorem Ok.lits {l : List Mt} (h : Ok l) : Ok (l.map lit) := by
 refine ⟨by rw [List.length_map]; exact h.len, fun m hm => ?_, fun m hm => ?_⟩
 ·obtain ⟨x, hx, rfl⟩ := List.mem_map.1 hm
  rw [lit_n]
  exact h.n x hx
 ·obtain ⟨x, hx, rfl⟩ := List.mem_map.1 hm
  exact Nat.le_trans (lit_v x) (h.v x hx)
noncomputable def simO (l : List Mt) : Option (List Mt) := if chkA l = 0 then simA l else none
def SimP (r : Option (List Mt)) (w : World) (e : Ending) (w' : World) : Prop := ∃ v, e = .returned (.tuple #[v, .bool r.isSome]) ∧ Hid (OwnT w' w.heap.size v (r.getD [])) ∧ Hid (Below w.heap.size w w')
set_option maxHeartbeats 4000000 in
theorem simplify_any (l : List Mt) (hl : Ok l) (A : Option Addr) (c : Nat) (w : World) (hA : MS w w.heap.size A l) :
  Calls Tryz.prog 26 #[.slice A l.length c] w (SimP (simO l) w) := by
 have KC := Lib.hid (checkM_any l hl.max (fun m hm => ⟨hl.n m hm, by have := hl.v m hm; unfold maxLen; omega⟩) A c w hA)
 have hsz : l.length ≤ 100000 := hl.len
 have KL := Lib.hid (fun (w1 : World) (hb : Below w.heap.size w w1) => literals_any l (by omega) (fun m hm => by have := hl.v m hm; unfold maxLen; omega) A c w1 (hA.up hb))
 have HO := Lib.hid hl.lits
 obtain ⟨r, hr⟩ : ∃ r, r = simO l := ⟨_, rfl⟩
 rw [← hr]
 unfold simO at hr
 have hll : (l.map lit).length ≤ l.length := Nat.le_of_eq (List.length_map _)
 clear hA
 by_cases hc : chkA l = 0
 ·rw [if_pos hc] at hr
  unfold simA at hr
  rw [hc] at KC
  have HR := Lib.hid hr
  clear hc hr
  go_enter Tryz.func26, Tryz.ntmps26
  go_wp2_with fail
  refine KC.out.mono ?_
  rintro e w1 ⟨rfl, b1⟩
  obtain ⟨ls, hls⟩ : ∃ ls, ls = l.map lit := ⟨_, rfl⟩
  rw [← hls] at HO KL HR hll
  clear hls
  go_wp2_with fail
  refine (KL.out w1 b1.out).mono ?_
  rintro e w2 ⟨v, rfl, o2, b2⟩
  have B2 : Hid (Below w.heap.size w w2) := b1.out.trans (b2.out.mono b1.out.size)
  obtain ⟨A2, c2, rfl, m2⟩ := o2.out.form
  have KS := Lib.hid (setOf_any ls (by omega) HO.out.n A2 c2 w2 m2)
  have M2 := Lib.hid m2
  clear m2
  go_wp2_with fail
  refine KS.out.mono ?_
  rintro e w3 ⟨b, rfl, s3, b3⟩
  have B3 : Hid (Below w.heap.size w w3) := B2.out.trans (b3.out.mono B2.out.size)
  have KH := Lib.hid (hasM_any 49 (.map (some b)) enters49 (contra ls) ls HO.out.max A2 c2 w3 (M2.out.up b3.out) (fun W x hx hb => contra_any ls HO.out x (HO.out.v x hx) (HO.out.n x hx) b W (s3.out.set.up hb)))
  go_wp2_with fail
  refine KH.out.mono ?_
  rintro e w4 ⟨rfl, b4⟩
  have B4 : Hid (Below w.heap.size w w4) := B3.out.trans (b4.out.mono B3.out.size)
  cases hh : ls.any (contra ls) with
  | true =>
   have HE : Hid (r = none) := by show _ = _; rw [HR.out, if_pos hh]
   go_wp2
   go_ret2
   rw [HE.out]
   exact ⟨_, rfl, OwnT.nil _ _, B4⟩
  | false =>
   have HE : Hid (r = some (cmpc (srt (ls.filter fun m => !repl ls m)))) := by show _ = _; rw [HR.out, if_neg (by rw [hh]; simp)]
   have o4 : Hid (OwnT w4 w.heap.size (.slice A2 ls.length c2) ls) := (o2.out.below (b3.out.trans (b4.out.mono b3.out.size))).more b1.out.size
   have s4 := Lib.hid (s3.out.up b4.out)
   have hlow : ∀ g, (Value.slice A2 ls.length c2).ownBlock = some g → g < w2.heap.size := fun g hg => (own_lt o2.out g hg).2
   have hlo : ∀ g, (Value.slice A2 ls.length c2).ownBlock = some g → w.heap.size ≤ g := fun g hg => (own_lt o4.out g hg).1
   have KD := Lib.hid (delete_own 51 (.map (some b)) enters51 (repl ls) ls (by omega) _ w.heap.size w4 o4.out (fun g hg W x hx hb => repl_any ls HO.out x (HO.out.v x hx) (HO.out.n x hx) b W (s4.out.other hb (hlow g hg)).set))
   have hfl : (ls.filter fun m => !repl ls m).length ≤ ls.length := List.length_filter_le _ _
   generalize (ls.filter fun m => !repl ls m) = fs at *
   go_wp2_with fail
   refine KD.out.mono ?_
   rintro e w5 ⟨v5, rfl, hv5, o5, g5⟩
   have B5 : Hid (Below w.heap.size w w5) := B4.out.grown g5.out B4.out.size hlo
   rw [← hv5] at hlo
   have KO := Lib.hid (sort_own fs (by omega) v5 w.heap.size w5 o5.out)
   have hsl : (srt fs).length ≤ fs.length := Nat.le_of_eq (srt_len _)
   generalize srt fs = ss at *
   go_wp2_with fail
   refine KO.out.mono ?_
   rintro e w6 ⟨rfl, o6, g6⟩
   have B6 : Hid (Below w.heap.size w w6) := B5.out.grown g6.out B5.out.size hlo
   have KQ := Lib.hid (compact_own ss (by omega) v5 w.heap.size w6 o6.out)
   go_wp2_with fail
   refine KQ.out.mono ?_
   rintro e w7 ⟨v7, rfl, hv7, o7, g7⟩
   have B7 : Hid (Below w.heap.size w w7) := B6.out.grown g7.out B6.out.size hlo
   go_wp2
   go_ret2
   rw [HE.out]
   exact ⟨_, rfl, o7, B7⟩
 ·rw [if_neg hc] at hr
  subst hr
  have e0 := bneF hc
  clear hc
  generalize chkA l = q at *
  go_enter Tryz.func26, Tryz.ntmps26
  go_wp2_with fail
  refine KC.out.mono ?_
  rintro e w1 ⟨rfl, b1⟩
  go_wp2
  go_ret2
  exact ⟨_, rfl, OwnT.nil _ _, b1⟩
end Go.Proofs.YtdeppcddknakjaaGreatDoor.Mx
namespace Go.Proofs.YtdeppcddknakjaaGreatDoor.Mx
open Go.RowKit
open Go.Sort (grow)
open Go.Proofs.YtdeppcddknakjaaGreatDoor.Rx (EmpP SameP PreP MatP MatS ChkP pfxS pre check pre_len)
open Go.Proofs.YtdeppcddknakjaaGreatDoor.Lab (nameB getL Lb LS take_snocL)
noncomputable def impO (a b : List Mt) : Bool := decide (chkA a = 0) && (decide (chkA b = 0) && impA a b)
theorem Ok.sim {l s : List Mt} (hl : Ok l) (h : simA l = some s) : Ok s := by
 obtain ⟨_, h1, _, h2⟩ := simA_some h
 exact ⟨Nat.le_trans h2 hl.len, fun m hm => hl.lits.n m ((h1 m).1 hm).1, fun m hm => hl.lits.v m ((h1 m).1 hm).1⟩
theorem all_filter (p : Mt → Bool) : ∀ l : List Mt, (((l.filter fun x => !p x).length : Int) == 0) = l.all p
 | [] => rfl
 | x :: l => by
  rw [List.filter_cons, List.all_cons]
  cases h : p x with
  | true => exact all_filter p l
  | false =>
   have h3 : (((x :: l.filter fun x => !p x).length : Int) == 0) = (false && l.all p) := by
    rw [Bool.false_and, List.length_cons]
    exact bneF (by omega)
   exact h3
theorem checkO_any (l : List Mt) (hl : Ok l) (A : Option Addr) (c : Nat) (w : World) (hA : MS w w.heap.size A l) : Calls Tryz.prog 15 #[.slice A l.length c] w (ChkP (chkA l) w) :=
 checkM_any l hl.max (fun m hm => ⟨hl.n m hm, by have := hl.v m hm; unfold maxLen; omega⟩) A c w hA
set_option maxHeartbeats 4000000 in
theorem implies_any (a b : List Mt) (ha : Ok a) (hb : Ok b) (A : Option Addr) (c : Nat) (D : Option Addr) (d : Nat) (w : World) (hA : MS w w.heap.size A a) (hD : MS w w.heap.size D b) :
  Calls Tryz.prog 28 #[.slice A a.length c, .slice D b.length d] w (EmpP (impO a b) w) := by
 have KA := Lib.hid (checkO_any a ha A c w hA)
 have KB := Lib.hid (fun w1 (h : Below w.heap.size w w1) => checkO_any b hb D d w1 (hD.up h))
 have SA := Lib.hid (fun w1 (h : Below w.heap.size w w1) => simplify_any a ha A c w1 (hA.up h))
 have SB := Lib.hid (fun w1 (h : Below w.heap.size w w1) => simplify_any b hb D d w1 (hD.up h))
 clear hA hD
 obtain ⟨r, hr⟩ : ∃ r, r = impO a b := ⟨_, rfl⟩
 rw [← hr]
 unfold impO at hr
 by_cases ca : chkA a = 0
 ·by_cases cb : chkA b = 0
  ·rw [decide_eq_true ca, decide_eq_true cb] at hr
   have fa : simO a = simA a := if_pos ca
   have fb : simO b = simA b := if_pos cb
   rw [fa] at SA
   rw [fb] at SB
   rw [ca] at KA
   rw [cb] at KB
   clear ca cb fa fb
   unfold impA at hr
   cases sa : simA a with
   | none =>
    rw [sa] at SA hr
    have HE := Lib.hid hr
    clear sa hr
    go_enter Tryz.func28, Tryz.ntmps28
    go_wp2_with fail
    refine KA.out.mono ?_
    rintro e w1 ⟨rfl, b1⟩
    go_wp2_with fail
    refine (KB.out w1 b1.out).mono ?_
    rintro e w2 ⟨rfl, b2⟩
    have B2 : Hid (Below w.heap.size w w2) := b1.out.trans (b2.out.mono b1.out.size)
    go_wp2_with fail
    refine (SA.out w2 B2.out).mono ?_
    rintro e w3 ⟨v, rfl, o3, b3⟩
    have B3 : Hid (Below w.heap.size w w3) := B2.out.trans (b3.out.mono B2.out.size)
    go_wp2
    go_ret
    exact ⟨okE HE.out.symm, B3⟩
   | some x =>
    rw [sa] at SA hr
    have hx := Lib.hid (ha.sim sa)
    clear sa
    cases sb : simA b with
    | none =>
     rw [sb] at SB hr
     have HE := Lib.hid hr
     clear sb hr
     go_enter Tryz.func28, Tryz.ntmps28
     go_wp2_with fail
     refine KA.out.mono ?_
     rintro e w1 ⟨rfl, b1⟩
     go_wp2_with fail
     refine (KB.out w1 b1.out).mono ?_
     rintro e w2 ⟨rfl, b2⟩
     have B2 : Hid (Below w.heap.size w w2) := b1.out.trans (b2.out.mono b1.out.size)
     go_wp2_with fail
     refine (SA.out w2 B2.out).mono ?_
     rintro e w3 ⟨v, rfl, o3, b3⟩
     have B3 : Hid (Below w.heap.size w w3) := B2.out.trans (b3.out.mono B2.out.size)
     go_wp2_with fail
     refine (SB.out w3 B3.out).mono ?_
     rintro e w4 ⟨v4, rfl, o4, b4⟩
     have B4 : Hid (Below w.heap.size w w4) := B3.out.trans (b4.out.mono B3.out.size)
     go_wp2
     go_ret
     exact ⟨okE HE.out.symm, B4⟩
    | some y =>
     rw [sb] at SB hr
     have hy := Lib.hid (hb.sim sb)
     have hyl : y.length ≤ 100000 := hy.out.len
     have hxl : x.length ≤ 100000 := hx.out.len
     have HE := Lib.hid hr
     clear sb hr
     have hxy : Hid (∀ W b, SetR W b x → ∀ m ∈ y, Calls Tryz.prog 59 #[.map (some b), .agg #[.int .i64 m.k, .string m.n, .string m.v]] W (EmpP (impl x m) W)) := fun W b hs m hm => impl_any x hx.out m (hy.out.v m hm) (hy.out.n m hm) b W hs
     go_enter Tryz.func28, Tryz.ntmps28
     go_wp2_with fail
     refine KA.out.mono ?_
     rintro e w1 ⟨rfl, b1⟩
     go_wp2_with fail
     refine (KB.out w1 b1.out).mono ?_
     rintro e w2 ⟨rfl, b2⟩
     have B2 : Hid (Below w.heap.size w w2) := b1.out.trans (b2.out.mono b1.out.size)
     go_wp2_with fail
     refine (SA.out w2 B2.out).mono ?_
     rintro e w3 ⟨v3, rfl, o3, b3⟩
     have B3 : Hid (Below w.heap.size w w3) := B2.out.trans (b3.out.mono B2.out.size)
     go_wp2_with fail
     refine (SB.out w3 B3.out).mono ?_
     rintro e w4 ⟨v4, rfl, o4, b4⟩
     have B4 : Hid (Below w.heap.size w w4) := B3.out.trans (b4.out.mono B3.out.size)
     have hlow : ∀ g, v4.ownBlock = some g → g < w4.heap.size := fun g hg => (own_lt o4.out g hg).2
     have hlo : ∀ g, v4.ownBlock = some g → w3.heap.size ≤ g := fun g hg => (own_lt o4.out g hg).1
     have O3 := o3.out.below b4.out
     obtain ⟨A3, c3, rfl, m3⟩ := O3.form
     have KS := Lib.hid (setOf_any x hxl hx.out.n A3 c3 w4 m3)
     clear O3 m3
     go_wp2_with fail
     refine KS.out.mono ?_
     rintro e w5 ⟨b, rfl, s5, b5⟩
     have B5 : Hid (Below w.heap.size w w5) := B4.out.trans (b5.out.mono B4.out.size)
     have KD := Lib.hid (delete_own 59 (.map (some b)) enters59 (impl x) y (by omega) v4 w3.heap.size w5 (o4.out.below b5.out) (fun g hg W m hm hgr => hxy.out W b (s5.out.other hgr (hlow g hg)).set m hm))
     have HF := Lib.hid (all_filter (impl x) y)
     have HFL : (y.filter fun m => !impl x m).length ≤ y.length := List.length_filter_le _ _
     generalize (y.filter fun m => !impl x m) = z at *
     go_wp2_with fail
     refine KD.out.mono ?_
     rintro e w6 ⟨v6, rfl, hv6, o6, g6⟩
     have B6 : Hid (Below w.heap.size w w6) := B5.out.grown g6.out B5.out.size (fun g hg => Nat.le_trans B3.out.size (hlo g hg))
     obtain ⟨A6, c6, rfl, _⟩ := o6.out.form
     go_wp2
     go_ret
     exact ⟨by rw [HE.out, ← HF.out]; rfl, B6⟩
  ·rw [decide_eq_true ca, decide_eq_false cb] at hr
   have HE := Lib.hid hr
   have e0 := bneF cb
   rw [ca] at KA
   clear ca cb hr
   generalize chkA b = q at *
   go_enter Tryz.func28, Tryz.ntmps28
   go_wp2_with fail
   refine KA.out.mono ?_
   rintro e w1 ⟨rfl, b1⟩
   go_wp2_with fail
   refine (KB.out w1 b1.out).mono ?_
   rintro e w2 ⟨rfl, b2⟩
   go_wp2
   go_ret
   exact ⟨okE HE.out.symm, b1.out.trans (b2.out.mono b1.out.size)⟩
 ·rw [decide_eq_false ca] at hr
  have HE := Lib.hid hr
  have e0 := bneF ca
  have e0' : (chkA a != 0) = true := by rw [bne, e0]; rfl
  clear ca hr
  generalize chkA a = q at *
  go_enter Tryz.func28, Tryz.ntmps28
  go_wp2_with fail
  refine KA.out.mono ?_
  rintro e w1 ⟨rfl, b1⟩
  go_wp2
  go_ret
  exact ⟨okE HE.out.symm, b1⟩
end Go.Proofs.YtdeppcddknakjaaGreatDoor.Mx
