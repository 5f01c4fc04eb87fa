/- The map of comparisons. less, equal, and the comparisons that are made of them. -/
import Derived.Test.YtbiegbnncnjnmaaMQf
import Derived.MapKept
import Derived.Deep.DeepCutAuto
set_option linter.unusedVariables false
set_option linter.unusedSimpArgs false
namespace Go.Proofs.Ytbiegbnncnjnmaa.Iv
open Go.RowKit Go.Shelf
open Go.Proofs.Ytbiegbnncnjnmaa.Pro

/-- A map of the call's own, with boxes beside it. -/
structure MP (w : World) (es : Array MapEntry) (ck k : Nat) (L : List (Nat × Array Value × TypeId)) (V : World) : Prop where
  below : Below w.heap.size w V
  map : V.heap[w.heap.size]? = some (.map es ck)
  rows : ∀ x ∈ L, V.heap[x.1]? = some (.cells x.2.1 x.2.2 (0, 0)) ∧ w.heap.size < x.1
  size : V.heap.size = w.heap.size + k
theorem MP.make (w : World) : MP w #[] 0 1 [] (w.alloc (.map #[] 0)) := ⟨(Below.refl _ w).alloc (Nat.le_refl _) _, World.alloc_heap_new w _, (fun x hx => by cases hx), by rw [World.size_alloc]⟩
theorem MP.put {w V : World} {es : Array MapEntry} {ck k : Nat} {L : List (Nat × Array Value × TypeId)} (h : MP w es ck k L V) (es' : Array MapEntry) (ck' : Nat) : MP w es' ck' k L (V.putObj w.heap.size (.map es' ck')) := by
  have hg := grownBy_putObj' V w.heap.size (.map es' ck')
  have hlt : w.heap.size < V.heap.size := (Array.getElem?_eq_some_iff.1 h.map).1
  refine ⟨⟨hg.os.trans h.below.os, hg.tape.trans h.below.tape, hg.output.trans h.below.output, Nat.le_trans h.below.size hg.size, fun k hk => (hg.block k (by omega) (by intro e; injection e with e; omega)).trans (h.below.block k hk)⟩, ?_, fun x hx => ?_, ?_⟩
  · simp [World.putObj, hlt]
  · obtain ⟨h1, h2⟩ := h.rows x hx
    exact ⟨(hg.block x.1 (Array.getElem?_eq_some_iff.1 h1).1 (by intro e; injection e with e; omega)).trans h1, h2⟩
  · simp [World.putObj, h.size]
theorem MP.alloc {w V : World} {es : Array MapEntry} {ck k : Nat} {L : List (Nat × Array Value × TypeId)} (h : MP w es ck k L V) (cs : Array Value) (t : TypeId) : MP w es ck (k + 1) ((w.heap.size + k, cs, t) :: L) (V.alloc (.cells cs t)) := by
  have hlt : w.heap.size < V.heap.size := (Array.getElem?_eq_some_iff.1 h.map).1
  refine ⟨h.below.alloc h.below.size _, (heap_alloc_old _ _ _ hlt).trans h.map, fun x hx => ?_, ?_⟩
  · rcases List.mem_cons.1 hx with rfl | hx
    · exact ⟨by rw [← h.size]; exact heap_alloc_new _ _, by have := h.size; simp only; omega⟩
    · obtain ⟨h1, h2⟩ := h.rows x hx
      exact ⟨(heap_alloc_old _ _ _ (Array.getElem?_eq_some_iff.1 h1).1).trans h1, h2⟩
  · rw [World.size_alloc, h.size]
    omega
theorem upd (W : World) (r : Nat) (es : Array MapEntry) (ck : Nat) (n : Int) (v : Value) (hb : W.heap[r]? = some (.map es ck)) (hf : Instr.findNow (.int .i64) (.int .i64 n) es.toList 0 = some none) :
    (Instr.mapUpdate 59 (.map (some r)) (.int .i64 n) v).run Try.prog W = .ok () (W.putObj r (.map (es.push ⟨.int .i64 n, v, ck⟩) (ck + 1))) := by
  have hk : MapKept.IsKey (.int .i64) (.int .i64 n) := rfl
  simp [Instr.mapUpdate, run_underlying Try.underlying59, MapKept.run_getObj_map hb, MapKept.run_checkKey Try.underlying3 hk, MapKept.run_findKey Try.underlying3 hf, MapKept.run_setObj_map _ hb, Result.andThen, World.putObj]
theorem look (W : World) (r : Nat) (es : Array MapEntry) (ck : Nat) (n : Int) (i : Nat) (v : Value) (hb : W.heap[r]? = some (.map es ck)) (hf : Instr.findNow (.int .i64) (.int .i64 n) es.toList 0 = some (some (i, v))) :
    (Instr.lookup 59 (.map (some r)) (.int .i64 n) true).run Try.prog W = .ok (.tuple #[v, .bool true]) W := by
  have hk : MapKept.IsKey (.int .i64) (.int .i64 n) := rfl
  simp [Instr.lookup, run_underlying Try.underlying59, MapKept.run_getObj_map hb, MapKept.run_checkKey Try.underlying3 hk, MapKept.run_findKey Try.underlying3 hf, Result.andThen]
theorem lookNo (W : World) (r : Nat) (es : Array MapEntry) (ck : Nat) (n : Int) (hb : W.heap[r]? = some (.map es ck)) (hf : Instr.findNow (.int .i64) (.int .i64 n) es.toList 0 = some none) :
    (Instr.lookup 59 (.map (some r)) (.int .i64 n) true).run Try.prog W = .ok (.tuple #[.nilFunc, .bool false]) W := by
  have hk : MapKept.IsKey (.int .i64) (.int .i64 n) := rfl
  simp [Instr.lookup, run_underlying Try.underlying59, MapKept.run_getObj_map hb, MapKept.run_checkKey Try.underlying3 hk, MapKept.run_findKey Try.underlying3 hf, Result.andThen, Try.zeroValue57]
theorem opp_made (fn : Fn) (cap : Array Value) (w : World) : Calls Try.prog 75 #[.func fn #[] cap] w fun e w' => e = .returned (.func (.func 93) #[] #[.pointer (some ⟨w.heap.size, 0, none⟩)]) ∧ w' = w.alloc (.cells #[.func fn #[] cap] 57) := by
  go_enter Try.func75, Try.ntmps75
  go_wp2
  go_ret
  exact ⟨rfl, rfl⟩
theorem exch_made (fn : Fn) (cap : Array Value) (w : World) : Calls Try.prog 77 #[.func fn #[] cap] w fun e w' => e = .returned (.func (.func 94) #[] #[.pointer (some ⟨w.heap.size, 0, none⟩)]) ∧ w' = w.alloc (.cells #[.func fn #[] cap] 57) := by
  go_enter Try.func77, Try.ntmps77
  go_wp2
  go_ret
  exact ⟨rfl, rfl⟩
/-- The map of comparisons. -/
def ents (w : World) : Array MapEntry := #[⟨.int .i64 5, .func (.func 74) #[] #[], 0⟩, ⟨.int .i64 6, .func (.func 93) #[] #[.pointer (some ⟨w.heap.size + 1, 0, none⟩)], 1⟩, ⟨.int .i64 7, .func (.func 76) #[] #[], 2⟩, ⟨.int .i64 8, .func (.func 93) #[] #[.pointer (some ⟨w.heap.size + 3, 0, none⟩)], 3⟩, ⟨.int .i64 9, .func (.func 94) #[] #[.pointer (some ⟨w.heap.size + 4, 0, none⟩)], 4⟩, ⟨.int .i64 10, .func (.func 93) #[] #[.pointer (some ⟨w.heap.size + 5, 0, none⟩)], 5⟩]
def boxes (w : World) : List (Nat × Array Value × TypeId) := [(w.heap.size + 5, #[.func (.func 76) #[] #[]], 57), (w.heap.size + 4, #[.func (.func 76) #[] #[]], 57), (w.heap.size + 3, #[.func (.func 94) #[] #[.pointer (some ⟨w.heap.size + 2, 0, none⟩)]], 57), (w.heap.size + 2, #[.func (.func 76) #[] #[]], 57), (w.heap.size + 1, #[.func (.func 74) #[] #[]], 57)]
set_option maxRecDepth 100000 in
set_option maxHeartbeats 2000000 in
theorem comparisons_made (w : World) : Calls Try.prog 56 #[] w fun e w' => e = .returned (.map (some w.heap.size)) ∧ MP w (ents w) 6 6 (boxes w) w' := by
  go_enter Try.func56, Try.ntmps56
  have hmm := @run_makeMap Try.prog
  have T1 := Lib.hid (MP.make w)
  have hu0 := upd (w.alloc (.map #[] 0)) w.heap.size #[] 0 5 (.func (.func 74) #[] #[]) T1.out.map (by rfl)
  have T2 : Hid (MP w #[⟨.int .i64 5, .func (.func 74) #[] #[], 0⟩] 1 1 [] ((w.alloc (.map #[] 0)).putObj w.heap.size (.map #[⟨.int .i64 5, .func (.func 74) #[] #[], 0⟩] 1))) := Lib.hid (T1.out.put _ _)
  simp only [List.push_toArray, List.cons_append, List.nil_append, Nat.reduceAdd] at hu0
  generalize hV2 : ((w.alloc (.map #[] 0)).putObj w.heap.size (.map #[⟨.int .i64 5, .func (.func 74) #[] #[], 0⟩] 1)) = V2 at *
  go_wp2_with fail
  refine (opp_made _ _ _).mono ?_
  rintro e w3 ⟨rfl, rfl⟩
  rw [T2.out.size]
  have T3 := Lib.hid (T2.out.alloc #[.func (.func 74) #[] #[]] 57)
  clear hu0 hmm T1 T2
  generalize V2.alloc (.cells #[.func (.func 74) #[] #[]] 57) = V3 at *
  have hu1 := upd V3 w.heap.size #[⟨.int .i64 5, .func (.func 74) #[] #[], 0⟩] 1 6 (.func (.func 93) #[] #[.pointer (some ⟨w.heap.size + 1, 0, none⟩)]) T3.out.map (by rfl)
  have T4 : Hid (MP w #[⟨.int .i64 5, .func (.func 74) #[] #[], 0⟩, ⟨.int .i64 6, .func (.func 93) #[] #[.pointer (some ⟨w.heap.size + 1, 0, none⟩)], 1⟩] 2 2 [(w.heap.size + 1, #[.func (.func 74) #[] #[]], 57)] (V3.putObj w.heap.size (.map #[⟨.int .i64 5, .func (.func 74) #[] #[], 0⟩, ⟨.int .i64 6, .func (.func 93) #[] #[.pointer (some ⟨w.heap.size + 1, 0, none⟩)], 1⟩] 2))) := Lib.hid (T3.out.put _ _)
  simp only [List.push_toArray, List.cons_append, List.nil_append, Nat.reduceAdd] at hu1
  have hu2 := upd (V3.putObj w.heap.size (.map #[⟨.int .i64 5, .func (.func 74) #[] #[], 0⟩, ⟨.int .i64 6, .func (.func 93) #[] #[.pointer (some ⟨w.heap.size + 1, 0, none⟩)], 1⟩] 2)) w.heap.size #[⟨.int .i64 5, .func (.func 74) #[] #[], 0⟩, ⟨.int .i64 6, .func (.func 93) #[] #[.pointer (some ⟨w.heap.size + 1, 0, none⟩)], 1⟩] 2 7 (.func (.func 76) #[] #[]) T4.out.map (by rfl)
  have T5 : Hid (MP w #[⟨.int .i64 5, .func (.func 74) #[] #[], 0⟩, ⟨.int .i64 6, .func (.func 93) #[] #[.pointer (some ⟨w.heap.size + 1, 0, none⟩)], 1⟩, ⟨.int .i64 7, .func (.func 76) #[] #[], 2⟩] 3 2 [(w.heap.size + 1, #[.func (.func 74) #[] #[]], 57)] ((V3.putObj w.heap.size (.map #[⟨.int .i64 5, .func (.func 74) #[] #[], 0⟩, ⟨.int .i64 6, .func (.func 93) #[] #[.pointer (some ⟨w.heap.size + 1, 0, none⟩)], 1⟩] 2)).putObj w.heap.size (.map #[⟨.int .i64 5, .func (.func 74) #[] #[], 0⟩, ⟨.int .i64 6, .func (.func 93) #[] #[.pointer (some ⟨w.heap.size + 1, 0, none⟩)], 1⟩, ⟨.int .i64 7, .func (.func 76) #[] #[], 2⟩] 3))) := Lib.hid (T4.out.put _ _)
  simp only [List.push_toArray, List.cons_append, List.nil_append, Nat.reduceAdd] at hu2
  generalize hV5 : ((V3.putObj w.heap.size (.map #[⟨.int .i64 5, .func (.func 74) #[] #[], 0⟩, ⟨.int .i64 6, .func (.func 93) #[] #[.pointer (some ⟨w.heap.size + 1, 0, none⟩)], 1⟩] 2)).putObj w.heap.size (.map #[⟨.int .i64 5, .func (.func 74) #[] #[], 0⟩, ⟨.int .i64 6, .func (.func 93) #[] #[.pointer (some ⟨w.heap.size + 1, 0, none⟩)], 1⟩, ⟨.int .i64 7, .func (.func 76) #[] #[], 2⟩] 3)) = V5 at *
  go_wp2_with fail
  refine (exch_made _ _ _).mono ?_
  rintro e w6 ⟨rfl, rfl⟩
  rw [T5.out.size]
  have T6 := Lib.hid (T5.out.alloc #[.func (.func 76) #[] #[]] 57)
  clear hu1 hu2 T3 T4 T5
  generalize V5.alloc (.cells #[.func (.func 76) #[] #[]] 57) = V6 at *
  go_wp2_with fail
  refine (opp_made _ _ _).mono ?_
  rintro e w7 ⟨rfl, rfl⟩
  rw [T6.out.size]
  have T7 := Lib.hid (T6.out.alloc #[.func (.func 94) #[] #[.pointer (some ⟨w.heap.size + 2, 0, none⟩)]] 57)
  clear T6
  generalize V6.alloc (.cells #[.func (.func 94) #[] #[.pointer (some ⟨w.heap.size + 2, 0, none⟩)]] 57) = V7 at *
  have hu3 := upd V7 w.heap.size #[⟨.int .i64 5, .func (.func 74) #[] #[], 0⟩, ⟨.int .i64 6, .func (.func 93) #[] #[.pointer (some ⟨w.heap.size + 1, 0, none⟩)], 1⟩, ⟨.int .i64 7, .func (.func 76) #[] #[], 2⟩] 3 8 (.func (.func 93) #[] #[.pointer (some ⟨w.heap.size + 3, 0, none⟩)]) T7.out.map (by rfl)
  have T8 : Hid (MP w #[⟨.int .i64 5, .func (.func 74) #[] #[], 0⟩, ⟨.int .i64 6, .func (.func 93) #[] #[.pointer (some ⟨w.heap.size + 1, 0, none⟩)], 1⟩, ⟨.int .i64 7, .func (.func 76) #[] #[], 2⟩, ⟨.int .i64 8, .func (.func 93) #[] #[.pointer (some ⟨w.heap.size + 3, 0, none⟩)], 3⟩] 4 4 [(w.heap.size + 3, #[.func (.func 94) #[] #[.pointer (some ⟨w.heap.size + 2, 0, none⟩)]], 57), (w.heap.size + 2, #[.func (.func 76) #[] #[]], 57), (w.heap.size + 1, #[.func (.func 74) #[] #[]], 57)] (V7.putObj w.heap.size (.map #[⟨.int .i64 5, .func (.func 74) #[] #[], 0⟩, ⟨.int .i64 6, .func (.func 93) #[] #[.pointer (some ⟨w.heap.size + 1, 0, none⟩)], 1⟩, ⟨.int .i64 7, .func (.func 76) #[] #[], 2⟩, ⟨.int .i64 8, .func (.func 93) #[] #[.pointer (some ⟨w.heap.size + 3, 0, none⟩)], 3⟩] 4))) := Lib.hid (T7.out.put _ _)
  simp only [List.push_toArray, List.cons_append, List.nil_append, Nat.reduceAdd] at hu3
  generalize hV8 : (V7.putObj w.heap.size (.map #[⟨.int .i64 5, .func (.func 74) #[] #[], 0⟩, ⟨.int .i64 6, .func (.func 93) #[] #[.pointer (some ⟨w.heap.size + 1, 0, none⟩)], 1⟩, ⟨.int .i64 7, .func (.func 76) #[] #[], 2⟩, ⟨.int .i64 8, .func (.func 93) #[] #[.pointer (some ⟨w.heap.size + 3, 0, none⟩)], 3⟩] 4)) = V8 at *
  go_wp2_with fail
  refine (exch_made _ _ _).mono ?_
  rintro e w9 ⟨rfl, rfl⟩
  rw [T8.out.size]
  have T9 := Lib.hid (T8.out.alloc #[.func (.func 76) #[] #[]] 57)
  clear hu3 T7 T8
  generalize V8.alloc (.cells #[.func (.func 76) #[] #[]] 57) = V9 at *
  have hu4 := upd V9 w.heap.size #[⟨.int .i64 5, .func (.func 74) #[] #[], 0⟩, ⟨.int .i64 6, .func (.func 93) #[] #[.pointer (some ⟨w.heap.size + 1, 0, none⟩)], 1⟩, ⟨.int .i64 7, .func (.func 76) #[] #[], 2⟩, ⟨.int .i64 8, .func (.func 93) #[] #[.pointer (some ⟨w.heap.size + 3, 0, none⟩)], 3⟩] 4 9 (.func (.func 94) #[] #[.pointer (some ⟨w.heap.size + 4, 0, none⟩)]) T9.out.map (by rfl)
  have TA : Hid (MP w #[⟨.int .i64 5, .func (.func 74) #[] #[], 0⟩, ⟨.int .i64 6, .func (.func 93) #[] #[.pointer (some ⟨w.heap.size + 1, 0, none⟩)], 1⟩, ⟨.int .i64 7, .func (.func 76) #[] #[], 2⟩, ⟨.int .i64 8, .func (.func 93) #[] #[.pointer (some ⟨w.heap.size + 3, 0, none⟩)], 3⟩, ⟨.int .i64 9, .func (.func 94) #[] #[.pointer (some ⟨w.heap.size + 4, 0, none⟩)], 4⟩] 5 5 [(w.heap.size + 4, #[.func (.func 76) #[] #[]], 57), (w.heap.size + 3, #[.func (.func 94) #[] #[.pointer (some ⟨w.heap.size + 2, 0, none⟩)]], 57), (w.heap.size + 2, #[.func (.func 76) #[] #[]], 57), (w.heap.size + 1, #[.func (.func 74) #[] #[]], 57)] (V9.putObj w.heap.size (.map #[⟨.int .i64 5, .func (.func 74) #[] #[], 0⟩, ⟨.int .i64 6, .func (.func 93) #[] #[.pointer (some ⟨w.heap.size + 1, 0, none⟩)], 1⟩, ⟨.int .i64 7, .func (.func 76) #[] #[], 2⟩, ⟨.int .i64 8, .func (.func 93) #[] #[.pointer (some ⟨w.heap.size + 3, 0, none⟩)], 3⟩, ⟨.int .i64 9, .func (.func 94) #[] #[.pointer (some ⟨w.heap.size + 4, 0, none⟩)], 4⟩] 5))) := Lib.hid (T9.out.put _ _)
  simp only [List.push_toArray, List.cons_append, List.nil_append, Nat.reduceAdd] at hu4
  generalize hVA : (V9.putObj w.heap.size (.map #[⟨.int .i64 5, .func (.func 74) #[] #[], 0⟩, ⟨.int .i64 6, .func (.func 93) #[] #[.pointer (some ⟨w.heap.size + 1, 0, none⟩)], 1⟩, ⟨.int .i64 7, .func (.func 76) #[] #[], 2⟩, ⟨.int .i64 8, .func (.func 93) #[] #[.pointer (some ⟨w.heap.size + 3, 0, none⟩)], 3⟩, ⟨.int .i64 9, .func (.func 94) #[] #[.pointer (some ⟨w.heap.size + 4, 0, none⟩)], 4⟩] 5)) = VA at *
  go_wp2_with fail
  refine (opp_made _ _ _).mono ?_
  rintro e w10 ⟨rfl, rfl⟩
  rw [TA.out.size]
  have TB := Lib.hid (TA.out.alloc #[.func (.func 76) #[] #[]] 57)
  clear hu4 T9 TA
  generalize VA.alloc (.cells #[.func (.func 76) #[] #[]] 57) = VB at *
  have hu5 := upd VB w.heap.size #[⟨.int .i64 5, .func (.func 74) #[] #[], 0⟩, ⟨.int .i64 6, .func (.func 93) #[] #[.pointer (some ⟨w.heap.size + 1, 0, none⟩)], 1⟩, ⟨.int .i64 7, .func (.func 76) #[] #[], 2⟩, ⟨.int .i64 8, .func (.func 93) #[] #[.pointer (some ⟨w.heap.size + 3, 0, none⟩)], 3⟩, ⟨.int .i64 9, .func (.func 94) #[] #[.pointer (some ⟨w.heap.size + 4, 0, none⟩)], 4⟩] 5 10 (.func (.func 93) #[] #[.pointer (some ⟨w.heap.size + 5, 0, none⟩)]) TB.out.map (by rfl)
  have TC : Hid (MP w #[⟨.int .i64 5, .func (.func 74) #[] #[], 0⟩, ⟨.int .i64 6, .func (.func 93) #[] #[.pointer (some ⟨w.heap.size + 1, 0, none⟩)], 1⟩, ⟨.int .i64 7, .func (.func 76) #[] #[], 2⟩, ⟨.int .i64 8, .func (.func 93) #[] #[.pointer (some ⟨w.heap.size + 3, 0, none⟩)], 3⟩, ⟨.int .i64 9, .func (.func 94) #[] #[.pointer (some ⟨w.heap.size + 4, 0, none⟩)], 4⟩, ⟨.int .i64 10, .func (.func 93) #[] #[.pointer (some ⟨w.heap.size + 5, 0, none⟩)], 5⟩] 6 6 [(w.heap.size + 5, #[.func (.func 76) #[] #[]], 57), (w.heap.size + 4, #[.func (.func 76) #[] #[]], 57), (w.heap.size + 3, #[.func (.func 94) #[] #[.pointer (some ⟨w.heap.size + 2, 0, none⟩)]], 57), (w.heap.size + 2, #[.func (.func 76) #[] #[]], 57), (w.heap.size + 1, #[.func (.func 74) #[] #[]], 57)] (VB.putObj w.heap.size (.map #[⟨.int .i64 5, .func (.func 74) #[] #[], 0⟩, ⟨.int .i64 6, .func (.func 93) #[] #[.pointer (some ⟨w.heap.size + 1, 0, none⟩)], 1⟩, ⟨.int .i64 7, .func (.func 76) #[] #[], 2⟩, ⟨.int .i64 8, .func (.func 93) #[] #[.pointer (some ⟨w.heap.size + 3, 0, none⟩)], 3⟩, ⟨.int .i64 9, .func (.func 94) #[] #[.pointer (some ⟨w.heap.size + 4, 0, none⟩)], 4⟩, ⟨.int .i64 10, .func (.func 93) #[] #[.pointer (some ⟨w.heap.size + 5, 0, none⟩)], 5⟩] 6))) := Lib.hid (TB.out.put _ _)
  simp only [List.push_toArray, List.cons_append, List.nil_append, Nat.reduceAdd] at hu5
  go_wp2
  go_ret
  exact ⟨rfl, TC.out⟩
end Go.Proofs.Ytbiegbnncnjnmaa.Iv
namespace Go.Proofs.Ytbiegbnncnjnmaa.Iv
open Go.RowKit Go.Shelf
open Go.Proofs.Ytbiegbnncnjnmaa.Pro

set_option maxRecDepth 100000 in
set_option maxHeartbeats 2000000 in
theorem pless_one (a b c d p q r s c1 c2 : Int) (h1 : c1 < 0)
    (M1 : Hid (∀ w : World, Calls Try.prog 37 #[.agg #[.int .i64 c, .int .i64 d], .agg #[.int .i64 p, .int .i64 q]] w fun e w' => e = .returned (.int .i64 c1) ∧ Below w.heap.size w w'))
    (M2 : Hid (∀ w : World, Calls Try.prog 37 #[.agg #[.int .i64 a, .int .i64 b], .agg #[.int .i64 r, .int .i64 s]] w fun e w' => e = .returned (.int .i64 c2) ∧ Below w.heap.size w w'))
    (w : World) : Calls Try.prog 76 #[.agg #[.int .i64 a, .int .i64 b, .int .i64 c, .int .i64 d], .agg #[.int .i64 p, .int .i64 q, .int .i64 r, .int .i64 s]] w fun e w' => e = .returned (.int .i64 1) ∧ Below w.heap.size w w' := by
  have T0 := Lib.hid (two0 w #[.int .i64 a, .int .i64 b, .int .i64 c, .int .i64 d] #[.int .i64 p, .int .i64 q, .int .i64 r, .int .i64 s] 25 25)
  go_enter Try.func76, Try.ntmps76
  go_upto_region 1 with fail
  generalize hW : (w.alloc (.cells #[.int .i64 a, .int .i64 b, .int .i64 c, .int .i64 d] 25)).alloc (.cells #[.int .i64 p, .int .i64 q, .int .i64 r, .int .i64 s] 25) = W2 at *
  obtain ⟨x0, x1, x2, x3, x4⟩ := Has.c4 (g := w.heap.size) (x := .int .i64 a) (y := .int .i64 b) (z := .int .i64 c) (u := .int .i64 d) (t := 25) T0.out (by simp)
  obtain ⟨y0, y1, y2, y3, y4⟩ := Has.c4 (g := w.heap.size + 1) (x := .int .i64 p) (y := .int .i64 q) (z := .int .i64 r) (u := .int .i64 s) (t := 25) T0.out (by simp)
  go_wp2_with fail
  with_reducible refine ((M1.out) _).mono ?_
  rintro e w3 ⟨rfl, hb⟩
  have T1 := Lib.hid (T0.out.step hb)
  clear hb
  clear x0 x1 x2 x3 x4 y0 y1 y2 y3 y4
  go_wp2
  go_ret
  exact ⟨rfl, T1.out.1⟩
set_option maxRecDepth 100000 in
set_option maxHeartbeats 2000000 in
theorem pless_zero (a b c d p q r s c1 c2 : Int) (h1 : ¬ c1 < 0) (h2 : 0 ≤ c2)
    (M1 : Hid (∀ w : World, Calls Try.prog 37 #[.agg #[.int .i64 c, .int .i64 d], .agg #[.int .i64 p, .int .i64 q]] w fun e w' => e = .returned (.int .i64 c1) ∧ Below w.heap.size w w'))
    (M2 : Hid (∀ w : World, Calls Try.prog 37 #[.agg #[.int .i64 a, .int .i64 b], .agg #[.int .i64 r, .int .i64 s]] w fun e w' => e = .returned (.int .i64 c2) ∧ Below w.heap.size w w'))
    (w : World) : Calls Try.prog 76 #[.agg #[.int .i64 a, .int .i64 b, .int .i64 c, .int .i64 d], .agg #[.int .i64 p, .int .i64 q, .int .i64 r, .int .i64 s]] w fun e w' => e = .returned (.int .i64 0) ∧ Below w.heap.size w w' := by
  have T0 := Lib.hid (two0 w #[.int .i64 a, .int .i64 b, .int .i64 c, .int .i64 d] #[.int .i64 p, .int .i64 q, .int .i64 r, .int .i64 s] 25 25)
  go_enter Try.func76, Try.ntmps76
  go_upto_region 1 with fail
  generalize hW : (w.alloc (.cells #[.int .i64 a, .int .i64 b, .int .i64 c, .int .i64 d] 25)).alloc (.cells #[.int .i64 p, .int .i64 q, .int .i64 r, .int .i64 s] 25) = W2 at *
  obtain ⟨x0, x1, x2, x3, x4⟩ := Has.c4 (g := w.heap.size) (x := .int .i64 a) (y := .int .i64 b) (z := .int .i64 c) (u := .int .i64 d) (t := 25) T0.out (by simp)
  obtain ⟨y0, y1, y2, y3, y4⟩ := Has.c4 (g := w.heap.size + 1) (x := .int .i64 p) (y := .int .i64 q) (z := .int .i64 r) (u := .int .i64 s) (t := 25) T0.out (by simp)
  go_wp2_with fail
  with_reducible refine ((M1.out) _).mono ?_
  rintro e w3 ⟨rfl, hb⟩
  have T1 := Lib.hid (T0.out.step hb)
  clear hb
  clear x0 x1 x2 x3 x4 y0 y1 y2 y3 y4
  obtain ⟨x0, x1, x2, x3, x4⟩ := Has.c4 (g := w.heap.size) (x := .int .i64 a) (y := .int .i64 b) (z := .int .i64 c) (u := .int .i64 d) (t := 25) T1.out (by simp)
  obtain ⟨y0, y1, y2, y3, y4⟩ := Has.c4 (g := w.heap.size + 1) (x := .int .i64 p) (y := .int .i64 q) (z := .int .i64 r) (u := .int .i64 s) (t := 25) T1.out (by simp)
  go_wp2_with fail
  with_reducible refine ((M2.out) _).mono ?_
  rintro e w4 ⟨rfl, hb⟩
  have T2 := Lib.hid (T1.out.step hb)
  clear hb
  clear x0 x1 x2 x3 x4 y0 y1 y2 y3 y4
  go_wp2
  go_ret
  exact ⟨rfl, T2.out.1⟩
set_option maxRecDepth 100000 in
set_option maxHeartbeats 2000000 in
theorem pless_open (a b c d p q r s c1 c2 : Int) (h1 : ¬ c1 < 0) (h2 : ¬ 0 ≤ c2)
    (M1 : Hid (∀ w : World, Calls Try.prog 37 #[.agg #[.int .i64 c, .int .i64 d], .agg #[.int .i64 p, .int .i64 q]] w fun e w' => e = .returned (.int .i64 c1) ∧ Below w.heap.size w w'))
    (M2 : Hid (∀ w : World, Calls Try.prog 37 #[.agg #[.int .i64 a, .int .i64 b], .agg #[.int .i64 r, .int .i64 s]] w fun e w' => e = .returned (.int .i64 c2) ∧ Below w.heap.size w w'))
    (w : World) : Calls Try.prog 76 #[.agg #[.int .i64 a, .int .i64 b, .int .i64 c, .int .i64 d], .agg #[.int .i64 p, .int .i64 q, .int .i64 r, .int .i64 s]] w fun e w' => e = .returned (.int .i64 (-1)) ∧ Below w.heap.size w w' := by
  have T0 := Lib.hid (two0 w #[.int .i64 a, .int .i64 b, .int .i64 c, .int .i64 d] #[.int .i64 p, .int .i64 q, .int .i64 r, .int .i64 s] 25 25)
  go_enter Try.func76, Try.ntmps76
  go_upto_region 1 with fail
  generalize hW : (w.alloc (.cells #[.int .i64 a, .int .i64 b, .int .i64 c, .int .i64 d] 25)).alloc (.cells #[.int .i64 p, .int .i64 q, .int .i64 r, .int .i64 s] 25) = W2 at *
  obtain ⟨x0, x1, x2, x3, x4⟩ := Has.c4 (g := w.heap.size) (x := .int .i64 a) (y := .int .i64 b) (z := .int .i64 c) (u := .int .i64 d) (t := 25) T0.out (by simp)
  obtain ⟨y0, y1, y2, y3, y4⟩ := Has.c4 (g := w.heap.size + 1) (x := .int .i64 p) (y := .int .i64 q) (z := .int .i64 r) (u := .int .i64 s) (t := 25) T0.out (by simp)
  go_wp2_with fail
  with_reducible refine ((M1.out) _).mono ?_
  rintro e w3 ⟨rfl, hb⟩
  have T1 := Lib.hid (T0.out.step hb)
  clear hb
  clear x0 x1 x2 x3 x4 y0 y1 y2 y3 y4
  obtain ⟨x0, x1, x2, x3, x4⟩ := Has.c4 (g := w.heap.size) (x := .int .i64 a) (y := .int .i64 b) (z := .int .i64 c) (u := .int .i64 d) (t := 25) T1.out (by simp)
  obtain ⟨y0, y1, y2, y3, y4⟩ := Has.c4 (g := w.heap.size + 1) (x := .int .i64 p) (y := .int .i64 q) (z := .int .i64 r) (u := .int .i64 s) (t := 25) T1.out (by simp)
  go_wp2_with fail
  with_reducible refine ((M2.out) _).mono ?_
  rintro e w4 ⟨rfl, hb⟩
  have T2 := Lib.hid (T1.out.step hb)
  clear hb
  clear x0 x1 x2 x3 x4 y0 y1 y2 y3 y4
  go_wp2
  go_ret
  exact ⟨rfl, T2.out.1⟩
set_option maxRecDepth 100000 in
set_option maxHeartbeats 2000000 in
theorem pequal_yes (a b : Int)
    (w : World) : Calls Try.prog 74 #[.agg #[.int .i64 a, .int .i64 b, .int .i64 a, .int .i64 b], .agg #[.int .i64 a, .int .i64 b, .int .i64 a, .int .i64 b]] w fun e w' => e = .returned (.int .i64 1) ∧ Below w.heap.size w w' := by
  have T0 := Lib.hid (two0 w #[.int .i64 a, .int .i64 b, .int .i64 a, .int .i64 b] #[.int .i64 a, .int .i64 b, .int .i64 a, .int .i64 b] 25 25)
  go_enter Try.func74, Try.ntmps74
  go_upto_region 1 with fail
  generalize hW : (w.alloc (.cells #[.int .i64 a, .int .i64 b, .int .i64 a, .int .i64 b] 25)).alloc (.cells #[.int .i64 a, .int .i64 b, .int .i64 a, .int .i64 b] 25) = W2 at *
  obtain ⟨x0, x1, x2, x3, x4⟩ := Has.c4 (g := w.heap.size) (x := .int .i64 a) (y := .int .i64 b) (z := .int .i64 a) (u := .int .i64 b) (t := 25) T0.out (by simp)
  obtain ⟨y0, y1, y2, y3, y4⟩ := Has.c4 (g := w.heap.size + 1) (x := .int .i64 a) (y := .int .i64 b) (z := .int .i64 a) (u := .int .i64 b) (t := 25) T0.out (by simp)
  go_wp2
  go_ret
  exact ⟨rfl, T0.out.1⟩
set_option maxRecDepth 100000 in
set_option maxHeartbeats 2000000 in
theorem pequal_a (a b c d p q r s l1 l2 : Int) (hne : Hid (¬ (a = p ∧ b = q ∧ c = r ∧ d = s ∧ a = c ∧ b = d))) (h1 : l1 = 1)
    (E1 : Hid (∀ w : World, Calls Try.prog 76 #[.agg #[.int .i64 a, .int .i64 b, .int .i64 c, .int .i64 d], .agg #[.int .i64 p, .int .i64 q, .int .i64 r, .int .i64 s]] w fun e w' => e = .returned (.int .i64 l1) ∧ Below w.heap.size w w'))
    (E2 : Hid (∀ w : World, Calls Try.prog 76 #[.agg #[.int .i64 p, .int .i64 q, .int .i64 r, .int .i64 s], .agg #[.int .i64 a, .int .i64 b, .int .i64 c, .int .i64 d]] w fun e w' => e = .returned (.int .i64 l2) ∧ Below w.heap.size w w'))
    (w : World) : Calls Try.prog 74 #[.agg #[.int .i64 a, .int .i64 b, .int .i64 c, .int .i64 d], .agg #[.int .i64 p, .int .i64 q, .int .i64 r, .int .i64 s]] w fun e w' => e = .returned (.int .i64 0) ∧ Below w.heap.size w w' := by
  have T0 := Lib.hid (two0 w #[.int .i64 a, .int .i64 b, .int .i64 c, .int .i64 d] #[.int .i64 p, .int .i64 q, .int .i64 r, .int .i64 s] 25 25)
  go_enter Try.func74, Try.ntmps74
  go_upto_region 1 with fail
  generalize hW : (w.alloc (.cells #[.int .i64 a, .int .i64 b, .int .i64 c, .int .i64 d] 25)).alloc (.cells #[.int .i64 p, .int .i64 q, .int .i64 r, .int .i64 s] 25) = W2 at *
  go_cut [5] (fun sv wx => sv = .bool false ∧ wx = W2)
  case first =>
    obtain ⟨x0, x1, x2, x3, x4⟩ := Has.c4 (g := w.heap.size) (x := .int .i64 a) (y := .int .i64 b) (z := .int .i64 c) (u := .int .i64 d) (t := 25) T0.out (by simp)
    obtain ⟨y0, y1, y2, y3, y4⟩ := Has.c4 (g := w.heap.size + 1) (x := .int .i64 p) (y := .int .i64 q) (z := .int .i64 r) (u := .int .i64 s) (t := 25) T0.out (by simp)
    clear E1 E2 T0 hW
    by_cases e0 : a = p
    rotate_left
    · clear hne
      go_wp2
      go_meet
      exact ⟨rfl, rfl⟩
    subst e0
    by_cases e1 : b = q
    rotate_left
    · clear hne
      go_wp2
      go_meet
      exact ⟨rfl, rfl⟩
    subst e1
    by_cases e2 : c = r
    rotate_left
    · clear hne
      go_wp2
      go_meet
      exact ⟨rfl, rfl⟩
    subst e2
    by_cases e3 : d = s
    rotate_left
    · clear hne
      go_wp2
      go_meet
      exact ⟨rfl, rfl⟩
    subst e3
    by_cases e4 : a = c
    rotate_left
    · clear hne
      go_wp2
      go_meet
      exact ⟨rfl, rfl⟩
    subst e4
    by_cases e5 : b = d
    rotate_left
    · clear hne
      go_wp2
      go_meet
      exact ⟨rfl, rfl⟩
    subst e5
    exact absurd ⟨rfl, rfl, rfl, rfl, rfl, rfl⟩ hne.out
  case rest =>
    obtain ⟨rfl, rfl⟩ := hcut
    obtain ⟨x0, x1, x2, x3, x4⟩ := Has.c4 (g := w.heap.size) (x := .int .i64 a) (y := .int .i64 b) (z := .int .i64 c) (u := .int .i64 d) (t := 25) T0.out (by simp)
    obtain ⟨y0, y1, y2, y3, y4⟩ := Has.c4 (g := w.heap.size + 1) (x := .int .i64 p) (y := .int .i64 q) (z := .int .i64 r) (u := .int .i64 s) (t := 25) T0.out (by simp)
    go_wp2_with fail
    with_reducible refine ((E1.out) _).mono ?_
    rintro e w3 ⟨rfl, hb⟩
    have T1 := Lib.hid (T0.out.step hb)
    clear hb
    clear x0 x1 x2 x3 x4 y0 y1 y2 y3 y4
    go_wp2
    go_ret
    exact ⟨rfl, T1.out.1⟩
set_option maxRecDepth 100000 in
set_option maxHeartbeats 2000000 in
theorem pequal_b (a b c d p q r s l1 l2 : Int) (hne : Hid (¬ (a = p ∧ b = q ∧ c = r ∧ d = s ∧ a = c ∧ b = d))) (h1 : ¬ l1 = 1) (h2 : l2 = 1)
    (E1 : Hid (∀ w : World, Calls Try.prog 76 #[.agg #[.int .i64 a, .int .i64 b, .int .i64 c, .int .i64 d], .agg #[.int .i64 p, .int .i64 q, .int .i64 r, .int .i64 s]] w fun e w' => e = .returned (.int .i64 l1) ∧ Below w.heap.size w w'))
    (E2 : Hid (∀ w : World, Calls Try.prog 76 #[.agg #[.int .i64 p, .int .i64 q, .int .i64 r, .int .i64 s], .agg #[.int .i64 a, .int .i64 b, .int .i64 c, .int .i64 d]] w fun e w' => e = .returned (.int .i64 l2) ∧ Below w.heap.size w w'))
    (w : World) : Calls Try.prog 74 #[.agg #[.int .i64 a, .int .i64 b, .int .i64 c, .int .i64 d], .agg #[.int .i64 p, .int .i64 q, .int .i64 r, .int .i64 s]] w fun e w' => e = .returned (.int .i64 0) ∧ Below w.heap.size w w' := by
  have T0 := Lib.hid (two0 w #[.int .i64 a, .int .i64 b, .int .i64 c, .int .i64 d] #[.int .i64 p, .int .i64 q, .int .i64 r, .int .i64 s] 25 25)
  go_enter Try.func74, Try.ntmps74
  go_upto_region 1 with fail
  generalize hW : (w.alloc (.cells #[.int .i64 a, .int .i64 b, .int .i64 c, .int .i64 d] 25)).alloc (.cells #[.int .i64 p, .int .i64 q, .int .i64 r, .int .i64 s] 25) = W2 at *
  go_cut [5] (fun sv wx => sv = .bool false ∧ wx = W2)
  case first =>
    obtain ⟨x0, x1, x2, x3, x4⟩ := Has.c4 (g := w.heap.size) (x := .int .i64 a) (y := .int .i64 b) (z := .int .i64 c) (u := .int .i64 d) (t := 25) T0.out (by simp)
    obtain ⟨y0, y1, y2, y3, y4⟩ := Has.c4 (g := w.heap.size + 1) (x := .int .i64 p) (y := .int .i64 q) (z := .int .i64 r) (u := .int .i64 s) (t := 25) T0.out (by simp)
    clear E1 E2 T0 hW
    by_cases e0 : a = p
    rotate_left
    · clear hne
      go_wp2
      go_meet
      exact ⟨rfl, rfl⟩
    subst e0
    by_cases e1 : b = q
    rotate_left
    · clear hne
      go_wp2
      go_meet
      exact ⟨rfl, rfl⟩
    subst e1
    by_cases e2 : c = r
    rotate_left
    · clear hne
      go_wp2
      go_meet
      exact ⟨rfl, rfl⟩
    subst e2
    by_cases e3 : d = s
    rotate_left
    · clear hne
      go_wp2
      go_meet
      exact ⟨rfl, rfl⟩
    subst e3
    by_cases e4 : a = c
    rotate_left
    · clear hne
      go_wp2
      go_meet
      exact ⟨rfl, rfl⟩
    subst e4
    by_cases e5 : b = d
    rotate_left
    · clear hne
      go_wp2
      go_meet
      exact ⟨rfl, rfl⟩
    subst e5
    exact absurd ⟨rfl, rfl, rfl, rfl, rfl, rfl⟩ hne.out
  case rest =>
    obtain ⟨rfl, rfl⟩ := hcut
    obtain ⟨x0, x1, x2, x3, x4⟩ := Has.c4 (g := w.heap.size) (x := .int .i64 a) (y := .int .i64 b) (z := .int .i64 c) (u := .int .i64 d) (t := 25) T0.out (by simp)
    obtain ⟨y0, y1, y2, y3, y4⟩ := Has.c4 (g := w.heap.size + 1) (x := .int .i64 p) (y := .int .i64 q) (z := .int .i64 r) (u := .int .i64 s) (t := 25) T0.out (by simp)
    go_wp2_with fail
    with_reducible refine ((E1.out) _).mono ?_
    rintro e w3 ⟨rfl, hb⟩
    have T1 := Lib.hid (T0.out.step hb)
    clear hb
    clear x0 x1 x2 x3 x4 y0 y1 y2 y3 y4
    obtain ⟨x0, x1, x2, x3, x4⟩ := Has.c4 (g := w.heap.size) (x := .int .i64 a) (y := .int .i64 b) (z := .int .i64 c) (u := .int .i64 d) (t := 25) T1.out (by simp)
    obtain ⟨y0, y1, y2, y3, y4⟩ := Has.c4 (g := w.heap.size + 1) (x := .int .i64 p) (y := .int .i64 q) (z := .int .i64 r) (u := .int .i64 s) (t := 25) T1.out (by simp)
    go_wp2_with fail
    with_reducible refine ((E2.out) _).mono ?_
    rintro e w4 ⟨rfl, hb⟩
    have T2 := Lib.hid (T1.out.step hb)
    clear hb
    clear x0 x1 x2 x3 x4 y0 y1 y2 y3 y4
    go_wp2
    go_ret
    exact ⟨rfl, T2.out.1⟩
set_option maxRecDepth 100000 in
set_option maxHeartbeats 2000000 in
theorem pequal_no (a b c d p q r s l1 l2 : Int) (hne : Hid (¬ (a = p ∧ b = q ∧ c = r ∧ d = s ∧ a = c ∧ b = d))) (h1 : ¬ l1 = 1) (h2 : ¬ l2 = 1)
    (E1 : Hid (∀ w : World, Calls Try.prog 76 #[.agg #[.int .i64 a, .int .i64 b, .int .i64 c, .int .i64 d], .agg #[.int .i64 p, .int .i64 q, .int .i64 r, .int .i64 s]] w fun e w' => e = .returned (.int .i64 l1) ∧ Below w.heap.size w w'))
    (E2 : Hid (∀ w : World, Calls Try.prog 76 #[.agg #[.int .i64 p, .int .i64 q, .int .i64 r, .int .i64 s], .agg #[.int .i64 a, .int .i64 b, .int .i64 c, .int .i64 d]] w fun e w' => e = .returned (.int .i64 l2) ∧ Below w.heap.size w w'))
    (w : World) : Calls Try.prog 74 #[.agg #[.int .i64 a, .int .i64 b, .int .i64 c, .int .i64 d], .agg #[.int .i64 p, .int .i64 q, .int .i64 r, .int .i64 s]] w fun e w' => e = .returned (.int .i64 (-1)) ∧ Below w.heap.size w w' := by
  have T0 := Lib.hid (two0 w #[.int .i64 a, .int .i64 b, .int .i64 c, .int .i64 d] #[.int .i64 p, .int .i64 q, .int .i64 r, .int .i64 s] 25 25)
  go_enter Try.func74, Try.ntmps74
  go_upto_region 1 with fail
  generalize hW : (w.alloc (.cells #[.int .i64 a, .int .i64 b, .int .i64 c, .int .i64 d] 25)).alloc (.cells #[.int .i64 p, .int .i64 q, .int .i64 r, .int .i64 s] 25) = W2 at *
  go_cut [5] (fun sv wx => sv = .bool false ∧ wx = W2)
  case first =>
    obtain ⟨x0, x1, x2, x3, x4⟩ := Has.c4 (g := w.heap.size) (x := .int .i64 a) (y := .int .i64 b) (z := .int .i64 c) (u := .int .i64 d) (t := 25) T0.out (by simp)
    obtain ⟨y0, y1, y2, y3, y4⟩ := Has.c4 (g := w.heap.size + 1) (x := .int .i64 p) (y := .int .i64 q) (z := .int .i64 r) (u := .int .i64 s) (t := 25) T0.out (by simp)
    clear E1 E2 T0 hW
    by_cases e0 : a = p
    rotate_left
    · clear hne
      go_wp2
      go_meet
      exact ⟨rfl, rfl⟩
    subst e0
    by_cases e1 : b = q
    rotate_left
    · clear hne
      go_wp2
      go_meet
      exact ⟨rfl, rfl⟩
    subst e1
    by_cases e2 : c = r
    rotate_left
    · clear hne
      go_wp2
      go_meet
      exact ⟨rfl, rfl⟩
    subst e2
    by_cases e3 : d = s
    rotate_left
    · clear hne
      go_wp2
      go_meet
      exact ⟨rfl, rfl⟩
    subst e3
    by_cases e4 : a = c
    rotate_left
    · clear hne
      go_wp2
      go_meet
      exact ⟨rfl, rfl⟩
    subst e4
    by_cases e5 : b = d
    rotate_left
    · clear hne
      go_wp2
      go_meet
      exact ⟨rfl, rfl⟩
    subst e5
    exact absurd ⟨rfl, rfl, rfl, rfl, rfl, rfl⟩ hne.out
  case rest =>
    obtain ⟨rfl, rfl⟩ := hcut
    have q1 : (l1 == 1) = false := by simp [h1]
    have q2 : (l2 == 1) = false := by simp [h2]
    have q3 : (l1 == 1 || l2 == 1) = false := by simp [h1, h2]
    obtain ⟨x0, x1, x2, x3, x4⟩ := Has.c4 (g := w.heap.size) (x := .int .i64 a) (y := .int .i64 b) (z := .int .i64 c) (u := .int .i64 d) (t := 25) T0.out (by simp)
    obtain ⟨y0, y1, y2, y3, y4⟩ := Has.c4 (g := w.heap.size + 1) (x := .int .i64 p) (y := .int .i64 q) (z := .int .i64 r) (u := .int .i64 s) (t := 25) T0.out (by simp)
    go_wp2_with fail
    with_reducible refine ((E1.out) _).mono ?_
    rintro e w3 ⟨rfl, hb⟩
    have T1 := Lib.hid (T0.out.step hb)
    clear hb
    clear x0 x1 x2 x3 x4 y0 y1 y2 y3 y4
    obtain ⟨x0, x1, x2, x3, x4⟩ := Has.c4 (g := w.heap.size) (x := .int .i64 a) (y := .int .i64 b) (z := .int .i64 c) (u := .int .i64 d) (t := 25) T1.out (by simp)
    obtain ⟨y0, y1, y2, y3, y4⟩ := Has.c4 (g := w.heap.size + 1) (x := .int .i64 p) (y := .int .i64 q) (z := .int .i64 r) (u := .int .i64 s) (t := 25) T1.out (by simp)
    go_wp2_with fail
    with_reducible refine ((E2.out) _).mono ?_
    rintro e w4 ⟨rfl, hb⟩
    have T2 := Lib.hid (T1.out.step hb)
    clear hb
    clear x0 x1 x2 x3 x4 y0 y1 y2 y3 y4
    go_wp2
    go_ret
    exact ⟨rfl, T2.out.1⟩
def opn (n : Int) : Int := if n = 1 then 0 else if n = 0 then 1 else -1
set_option maxRecDepth 100000 in
set_option maxHeartbeats 2000000 in
theorem popp_74 (a b c d p q r s n : Int) (bb b2 : Nat) (w : World) (hb : bb < w.heap.size) (B : Hid (w.cell? ⟨bb, 0, none⟩ = some (.func (.func 74) #[] #[])))
    (C : Hid (∀ V, Below w.heap.size w V → Calls Try.prog 74 #[.agg #[.int .i64 a, .int .i64 b, .int .i64 c, .int .i64 d], .agg #[.int .i64 p, .int .i64 q, .int .i64 r, .int .i64 s]] V fun e w' => e = .returned (.int .i64 n) ∧ Below V.heap.size V w')) :
    Calls Try.prog 93 #[.agg #[.int .i64 a, .int .i64 b, .int .i64 c, .int .i64 d], .agg #[.int .i64 p, .int .i64 q, .int .i64 r, .int .i64 s], .pointer (some ⟨bb, 0, none⟩)] w fun e w' => e = .returned (.int .i64 (opn n)) ∧ Below w.heap.size w w' := by
  unfold opn
  by_cases n1 : n = 1
  · rw [if_pos n1]
    have T0 := Lib.hid (two0 w #[.int .i64 a, .int .i64 b, .int .i64 c, .int .i64 d] #[.int .i64 p, .int .i64 q, .int .i64 r, .int .i64 s] 25 25)
    have hbb := (T0.out.1.cell (p := ⟨bb, 0, none⟩) hb).trans B.out
    go_enter Try.func93, Try.ntmps93
    go_upto_region 1 with fail
    generalize hW : (w.alloc (.cells #[.int .i64 a, .int .i64 b, .int .i64 c, .int .i64 d] 25)).alloc (.cells #[.int .i64 p, .int .i64 q, .int .i64 r, .int .i64 s] 25) = W2 at *
    obtain ⟨x0, x1, x2, x3, x4⟩ := Has.c4 (g := w.heap.size) (x := .int .i64 a) (y := .int .i64 b) (z := .int .i64 c) (u := .int .i64 d) (t := 25) T0.out (by simp)
    obtain ⟨y0, y1, y2, y3, y4⟩ := Has.c4 (g := w.heap.size + 1) (x := .int .i64 p) (y := .int .i64 q) (z := .int .i64 r) (u := .int .i64 s) (t := 25) T0.out (by simp)
    have hbel := T0.out.1
    go_wp2_with fail
    with_reducible refine (C.out _ hbel).mono ?_
    rintro e w3 ⟨rfl, hb3⟩
    have T1 := Lib.hid (T0.out.step hb3)
    clear hb3 C B hbb hbel
    clear x0 x1 x2 x3 x4 y0 y1 y2 y3 y4
    go_wp2
    go_ret
    exact ⟨rfl, T1.out.1⟩
  rw [if_neg n1]
  by_cases n0 : n = 0
  · rw [if_pos n0]
    have T0 := Lib.hid (two0 w #[.int .i64 a, .int .i64 b, .int .i64 c, .int .i64 d] #[.int .i64 p, .int .i64 q, .int .i64 r, .int .i64 s] 25 25)
    have hbb := (T0.out.1.cell (p := ⟨bb, 0, none⟩) hb).trans B.out
    go_enter Try.func93, Try.ntmps93
    go_upto_region 1 with fail
    generalize hW : (w.alloc (.cells #[.int .i64 a, .int .i64 b, .int .i64 c, .int .i64 d] 25)).alloc (.cells #[.int .i64 p, .int .i64 q, .int .i64 r, .int .i64 s] 25) = W2 at *
    obtain ⟨x0, x1, x2, x3, x4⟩ := Has.c4 (g := w.heap.size) (x := .int .i64 a) (y := .int .i64 b) (z := .int .i64 c) (u := .int .i64 d) (t := 25) T0.out (by simp)
    obtain ⟨y0, y1, y2, y3, y4⟩ := Has.c4 (g := w.heap.size + 1) (x := .int .i64 p) (y := .int .i64 q) (z := .int .i64 r) (u := .int .i64 s) (t := 25) T0.out (by simp)
    have hbel := T0.out.1
    go_wp2_with fail
    with_reducible refine (C.out _ hbel).mono ?_
    rintro e w3 ⟨rfl, hb3⟩
    have T1 := Lib.hid (T0.out.step hb3)
    clear hb3 C B hbb hbel
    clear x0 x1 x2 x3 x4 y0 y1 y2 y3 y4
    go_wp2
    go_ret
    exact ⟨rfl, T1.out.1⟩
  rw [if_neg n0]
  have T0 := Lib.hid (two0 w #[.int .i64 a, .int .i64 b, .int .i64 c, .int .i64 d] #[.int .i64 p, .int .i64 q, .int .i64 r, .int .i64 s] 25 25)
  have hbb := (T0.out.1.cell (p := ⟨bb, 0, none⟩) hb).trans B.out
  go_enter Try.func93, Try.ntmps93
  go_upto_region 1 with fail
  generalize hW : (w.alloc (.cells #[.int .i64 a, .int .i64 b, .int .i64 c, .int .i64 d] 25)).alloc (.cells #[.int .i64 p, .int .i64 q, .int .i64 r, .int .i64 s] 25) = W2 at *
  obtain ⟨x0, x1, x2, x3, x4⟩ := Has.c4 (g := w.heap.size) (x := .int .i64 a) (y := .int .i64 b) (z := .int .i64 c) (u := .int .i64 d) (t := 25) T0.out (by simp)
  obtain ⟨y0, y1, y2, y3, y4⟩ := Has.c4 (g := w.heap.size + 1) (x := .int .i64 p) (y := .int .i64 q) (z := .int .i64 r) (u := .int .i64 s) (t := 25) T0.out (by simp)
  have hbel := T0.out.1
  go_wp2_with fail
  with_reducible refine (C.out _ hbel).mono ?_
  rintro e w3 ⟨rfl, hb3⟩
  have T1 := Lib.hid (T0.out.step hb3)
  clear hb3 C B hbb hbel
  clear x0 x1 x2 x3 x4 y0 y1 y2 y3 y4
  go_wp2
  go_ret
  exact ⟨rfl, T1.out.1⟩
set_option maxRecDepth 100000 in
set_option maxHeartbeats 2000000 in
theorem popp_76 (a b c d p q r s n : Int) (bb b2 : Nat) (w : World) (hb : bb < w.heap.size) (B : Hid (w.cell? ⟨bb, 0, none⟩ = some (.func (.func 76) #[] #[])))
    (C : Hid (∀ V, Below w.heap.size w V → Calls Try.prog 76 #[.agg #[.int .i64 a, .int .i64 b, .int .i64 c, .int .i64 d], .agg #[.int .i64 p, .int .i64 q, .int .i64 r, .int .i64 s]] V fun e w' => e = .returned (.int .i64 n) ∧ Below V.heap.size V w')) :
    Calls Try.prog 93 #[.agg #[.int .i64 a, .int .i64 b, .int .i64 c, .int .i64 d], .agg #[.int .i64 p, .int .i64 q, .int .i64 r, .int .i64 s], .pointer (some ⟨bb, 0, none⟩)] w fun e w' => e = .returned (.int .i64 (opn n)) ∧ Below w.heap.size w w' := by
  unfold opn
  by_cases n1 : n = 1
  · rw [if_pos n1]
    have T0 := Lib.hid (two0 w #[.int .i64 a, .int .i64 b, .int .i64 c, .int .i64 d] #[.int .i64 p, .int .i64 q, .int .i64 r, .int .i64 s] 25 25)
    have hbb := (T0.out.1.cell (p := ⟨bb, 0, none⟩) hb).trans B.out
    go_enter Try.func93, Try.ntmps93
    go_upto_region 1 with fail
    generalize hW : (w.alloc (.cells #[.int .i64 a, .int .i64 b, .int .i64 c, .int .i64 d] 25)).alloc (.cells #[.int .i64 p, .int .i64 q, .int .i64 r, .int .i64 s] 25) = W2 at *
    obtain ⟨x0, x1, x2, x3, x4⟩ := Has.c4 (g := w.heap.size) (x := .int .i64 a) (y := .int .i64 b) (z := .int .i64 c) (u := .int .i64 d) (t := 25) T0.out (by simp)
    obtain ⟨y0, y1, y2, y3, y4⟩ := Has.c4 (g := w.heap.size + 1) (x := .int .i64 p) (y := .int .i64 q) (z := .int .i64 r) (u := .int .i64 s) (t := 25) T0.out (by simp)
    have hbel := T0.out.1
    go_wp2_with fail
    with_reducible refine (C.out _ hbel).mono ?_
    rintro e w3 ⟨rfl, hb3⟩
    have T1 := Lib.hid (T0.out.step hb3)
    clear hb3 C B hbb hbel
    clear x0 x1 x2 x3 x4 y0 y1 y2 y3 y4
    go_wp2
    go_ret
    exact ⟨rfl, T1.out.1⟩
  rw [if_neg n1]
  by_cases n0 : n = 0
  · rw [if_pos n0]
    have T0 := Lib.hid (two0 w #[.int .i64 a, .int .i64 b, .int .i64 c, .int .i64 d] #[.int .i64 p, .int .i64 q, .int .i64 r, .int .i64 s] 25 25)
    have hbb := (T0.out.1.cell (p := ⟨bb, 0, none⟩) hb).trans B.out
    go_enter Try.func93, Try.ntmps93
    go_upto_region 1 with fail
    generalize hW : (w.alloc (.cells #[.int .i64 a, .int .i64 b, .int .i64 c, .int .i64 d] 25)).alloc (.cells #[.int .i64 p, .int .i64 q, .int .i64 r, .int .i64 s] 25) = W2 at *
    obtain ⟨x0, x1, x2, x3, x4⟩ := Has.c4 (g := w.heap.size) (x := .int .i64 a) (y := .int .i64 b) (z := .int .i64 c) (u := .int .i64 d) (t := 25) T0.out (by simp)
    obtain ⟨y0, y1, y2, y3, y4⟩ := Has.c4 (g := w.heap.size + 1) (x := .int .i64 p) (y := .int .i64 q) (z := .int .i64 r) (u := .int .i64 s) (t := 25) T0.out (by simp)
    have hbel := T0.out.1
    go_wp2_with fail
    with_reducible refine (C.out _ hbel).mono ?_
    rintro e w3 ⟨rfl, hb3⟩
    have T1 := Lib.hid (T0.out.step hb3)
    clear hb3 C B hbb hbel
    clear x0 x1 x2 x3 x4 y0 y1 y2 y3 y4
    go_wp2
    go_ret
    exact ⟨rfl, T1.out.1⟩
  rw [if_neg n0]
  have T0 := Lib.hid (two0 w #[.int .i64 a, .int .i64 b, .int .i64 c, .int .i64 d] #[.int .i64 p, .int .i64 q, .int .i64 r, .int .i64 s] 25 25)
  have hbb := (T0.out.1.cell (p := ⟨bb, 0, none⟩) hb).trans B.out
  go_enter Try.func93, Try.ntmps93
  go_upto_region 1 with fail
  generalize hW : (w.alloc (.cells #[.int .i64 a, .int .i64 b, .int .i64 c, .int .i64 d] 25)).alloc (.cells #[.int .i64 p, .int .i64 q, .int .i64 r, .int .i64 s] 25) = W2 at *
  obtain ⟨x0, x1, x2, x3, x4⟩ := Has.c4 (g := w.heap.size) (x := .int .i64 a) (y := .int .i64 b) (z := .int .i64 c) (u := .int .i64 d) (t := 25) T0.out (by simp)
  obtain ⟨y0, y1, y2, y3, y4⟩ := Has.c4 (g := w.heap.size + 1) (x := .int .i64 p) (y := .int .i64 q) (z := .int .i64 r) (u := .int .i64 s) (t := 25) T0.out (by simp)
  have hbel := T0.out.1
  go_wp2_with fail
  with_reducible refine (C.out _ hbel).mono ?_
  rintro e w3 ⟨rfl, hb3⟩
  have T1 := Lib.hid (T0.out.step hb3)
  clear hb3 C B hbb hbel
  clear x0 x1 x2 x3 x4 y0 y1 y2 y3 y4
  go_wp2
  go_ret
  exact ⟨rfl, T1.out.1⟩
set_option maxRecDepth 100000 in
set_option maxHeartbeats 2000000 in
theorem popp_94 (a b c d p q r s n : Int) (bb b2 : Nat) (w : World) (hb : bb < w.heap.size) (B : Hid (w.cell? ⟨bb, 0, none⟩ = some (.func (.func 94) #[] #[.pointer (some ⟨b2, 0, none⟩)])))
    (C : Hid (∀ V, Below w.heap.size w V → Calls Try.prog 94 #[.agg #[.int .i64 a, .int .i64 b, .int .i64 c, .int .i64 d], .agg #[.int .i64 p, .int .i64 q, .int .i64 r, .int .i64 s], .pointer (some ⟨b2, 0, none⟩)] V fun e w' => e = .returned (.int .i64 n) ∧ Below V.heap.size V w')) :
    Calls Try.prog 93 #[.agg #[.int .i64 a, .int .i64 b, .int .i64 c, .int .i64 d], .agg #[.int .i64 p, .int .i64 q, .int .i64 r, .int .i64 s], .pointer (some ⟨bb, 0, none⟩)] w fun e w' => e = .returned (.int .i64 (opn n)) ∧ Below w.heap.size w w' := by
  unfold opn
  by_cases n1 : n = 1
  · rw [if_pos n1]
    have T0 := Lib.hid (two0 w #[.int .i64 a, .int .i64 b, .int .i64 c, .int .i64 d] #[.int .i64 p, .int .i64 q, .int .i64 r, .int .i64 s] 25 25)
    have hbb := (T0.out.1.cell (p := ⟨bb, 0, none⟩) hb).trans B.out
    go_enter Try.func93, Try.ntmps93
    go_upto_region 1 with fail
    generalize hW : (w.alloc (.cells #[.int .i64 a, .int .i64 b, .int .i64 c, .int .i64 d] 25)).alloc (.cells #[.int .i64 p, .int .i64 q, .int .i64 r, .int .i64 s] 25) = W2 at *
    obtain ⟨x0, x1, x2, x3, x4⟩ := Has.c4 (g := w.heap.size) (x := .int .i64 a) (y := .int .i64 b) (z := .int .i64 c) (u := .int .i64 d) (t := 25) T0.out (by simp)
    obtain ⟨y0, y1, y2, y3, y4⟩ := Has.c4 (g := w.heap.size + 1) (x := .int .i64 p) (y := .int .i64 q) (z := .int .i64 r) (u := .int .i64 s) (t := 25) T0.out (by simp)
    have hbel := T0.out.1
    go_wp2_with fail
    with_reducible refine (C.out _ hbel).mono ?_
    rintro e w3 ⟨rfl, hb3⟩
    have T1 := Lib.hid (T0.out.step hb3)
    clear hb3 C B hbb hbel
    clear x0 x1 x2 x3 x4 y0 y1 y2 y3 y4
    go_wp2
    go_ret
    exact ⟨rfl, T1.out.1⟩
  rw [if_neg n1]
  by_cases n0 : n = 0
  · rw [if_pos n0]
    have T0 := Lib.hid (two0 w #[.int .i64 a, .int .i64 b, .int .i64 c, .int .i64 d] #[.int .i64 p, .int .i64 q, .int .i64 r, .int .i64 s] 25 25)
    have hbb := (T0.out.1.cell (p := ⟨bb, 0, none⟩) hb).trans B.out
    go_enter Try.func93, Try.ntmps93
    go_upto_region 1 with fail
    generalize hW : (w.alloc (.cells #[.int .i64 a, .int .i64 b, .int .i64 c, .int .i64 d] 25)).alloc (.cells #[.int .i64 p, .int .i64 q, .int .i64 r, .int .i64 s] 25) = W2 at *
    obtain ⟨x0, x1, x2, x3, x4⟩ := Has.c4 (g := w.heap.size) (x := .int .i64 a) (y := .int .i64 b) (z := .int .i64 c) (u := .int .i64 d) (t := 25) T0.out (by simp)
    obtain ⟨y0, y1, y2, y3, y4⟩ := Has.c4 (g := w.heap.size + 1) (x := .int .i64 p) (y := .int .i64 q) (z := .int .i64 r) (u := .int .i64 s) (t := 25) T0.out (by simp)
    have hbel := T0.out.1
    go_wp2_with fail
    with_reducible refine (C.out _ hbel).mono ?_
    rintro e w3 ⟨rfl, hb3⟩
    have T1 := Lib.hid (T0.out.step hb3)
    clear hb3 C B hbb hbel
    clear x0 x1 x2 x3 x4 y0 y1 y2 y3 y4
    go_wp2
    go_ret
    exact ⟨rfl, T1.out.1⟩
  rw [if_neg n0]
  have T0 := Lib.hid (two0 w #[.int .i64 a, .int .i64 b, .int .i64 c, .int .i64 d] #[.int .i64 p, .int .i64 q, .int .i64 r, .int .i64 s] 25 25)
  have hbb := (T0.out.1.cell (p := ⟨bb, 0, none⟩) hb).trans B.out
  go_enter Try.func93, Try.ntmps93
  go_upto_region 1 with fail
  generalize hW : (w.alloc (.cells #[.int .i64 a, .int .i64 b, .int .i64 c, .int .i64 d] 25)).alloc (.cells #[.int .i64 p, .int .i64 q, .int .i64 r, .int .i64 s] 25) = W2 at *
  obtain ⟨x0, x1, x2, x3, x4⟩ := Has.c4 (g := w.heap.size) (x := .int .i64 a) (y := .int .i64 b) (z := .int .i64 c) (u := .int .i64 d) (t := 25) T0.out (by simp)
  obtain ⟨y0, y1, y2, y3, y4⟩ := Has.c4 (g := w.heap.size + 1) (x := .int .i64 p) (y := .int .i64 q) (z := .int .i64 r) (u := .int .i64 s) (t := 25) T0.out (by simp)
  have hbel := T0.out.1
  go_wp2_with fail
  with_reducible refine (C.out _ hbel).mono ?_
  rintro e w3 ⟨rfl, hb3⟩
  have T1 := Lib.hid (T0.out.step hb3)
  clear hb3 C B hbb hbel
  clear x0 x1 x2 x3 x4 y0 y1 y2 y3 y4
  go_wp2
  go_ret
  exact ⟨rfl, T1.out.1⟩
set_option maxRecDepth 100000 in
set_option maxHeartbeats 2000000 in
theorem pexch_76 (a b c d p q r s n : Int) (bb b2 : Nat) (w : World) (hb : bb < w.heap.size) (B : Hid (w.cell? ⟨bb, 0, none⟩ = some (.func (.func 76) #[] #[])))
    (C : Hid (∀ V, Below w.heap.size w V → Calls Try.prog 76 #[.agg #[.int .i64 p, .int .i64 q, .int .i64 r, .int .i64 s], .agg #[.int .i64 a, .int .i64 b, .int .i64 c, .int .i64 d]] V fun e w' => e = .returned (.int .i64 n) ∧ Below V.heap.size V w')) :
    Calls Try.prog 94 #[.agg #[.int .i64 a, .int .i64 b, .int .i64 c, .int .i64 d], .agg #[.int .i64 p, .int .i64 q, .int .i64 r, .int .i64 s], .pointer (some ⟨bb, 0, none⟩)] w fun e w' => e = .returned (.int .i64 (n)) ∧ Below w.heap.size w w' := by
  have T0 := Lib.hid (two0 w #[.int .i64 a, .int .i64 b, .int .i64 c, .int .i64 d] #[.int .i64 p, .int .i64 q, .int .i64 r, .int .i64 s] 25 25)
  have hbb := (T0.out.1.cell (p := ⟨bb, 0, none⟩) hb).trans B.out
  go_enter Try.func94, Try.ntmps94
  go_upto_region 1 with fail
  generalize hW : (w.alloc (.cells #[.int .i64 a, .int .i64 b, .int .i64 c, .int .i64 d] 25)).alloc (.cells #[.int .i64 p, .int .i64 q, .int .i64 r, .int .i64 s] 25) = W2 at *
  obtain ⟨x0, x1, x2, x3, x4⟩ := Has.c4 (g := w.heap.size) (x := .int .i64 a) (y := .int .i64 b) (z := .int .i64 c) (u := .int .i64 d) (t := 25) T0.out (by simp)
  obtain ⟨y0, y1, y2, y3, y4⟩ := Has.c4 (g := w.heap.size + 1) (x := .int .i64 p) (y := .int .i64 q) (z := .int .i64 r) (u := .int .i64 s) (t := 25) T0.out (by simp)
  have hbel := T0.out.1
  go_wp2_with fail
  with_reducible refine (C.out _ hbel).mono ?_
  rintro e w3 ⟨rfl, hb3⟩
  have T1 := Lib.hid (T0.out.step hb3)
  clear hb3 C B hbb hbel
  clear x0 x1 x2 x3 x4 y0 y1 y2 y3 y4
  go_wp2
  go_ret
  exact ⟨rfl, T1.out.1⟩
end Go.Proofs.Ytbiegbnncnjnmaa.Iv
