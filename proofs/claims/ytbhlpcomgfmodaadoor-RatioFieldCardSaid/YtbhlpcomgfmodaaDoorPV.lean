/- The program's Parse. -/
import Derived.Test.YtbhlpcomgfmodaaDoorPU
set_option linter.unusedVariables false
set_option linter.unusedSimpArgs false
namespace Go.Proofs.YtbhlpcomgfmodaaDoor.Pro
open Go.RowKit

/-- What the row lists, and the library's own variable, as a world has them. -/
structure Laid (w : World) : Prop where
  t10 : T10 w
  top : ∃ m, w.cell? ⟨0, 0, none⟩ = some (.int .i64 m)
  syn : ∃ tp p, w.cell? ⟨1, 0, none⟩ = some (.iface tp p)
  rng : ∃ tp p, w.cell? ⟨2, 0, none⟩ = some (.iface tp p)
theorem cell_below {w w' : World} {a : Addr} {v : Value} (h : w.cell? a = some v) (hb : Below w.heap.size w w') : w'.cell? a = some v := by
  have hl := World.block_lt_of_cell? w a h
  rw [← h]
  unfold World.cell?
  rw [hb.block _ hl]
theorem Laid.below {w w' : World} (h : Laid w) (hb : Below w.heap.size w w') : Laid w' := by
  obtain ⟨h1, ⟨m, h2⟩, ⟨tp, p, h3⟩, ⟨tq, q, h4⟩⟩ := h
  exact ⟨h1.below hb, ⟨m, cell_below h2 hb⟩, ⟨tp, p, cell_below h3 hb⟩, ⟨tq, q, cell_below h4 hb⟩⟩
/-- A number and an error. -/
def AtoiPost (v : Int) (w : World) (e : Ending) (w' : World) : Prop := (∃ ev : Value, e = .returned (.tuple #[.int .i64 v, ev])) ∧ Below w.heap.size w w'
theorem atoi_any (s : ByteArray) (hs : s.size ≤ 281474976710656) (w : World) (h : Laid w) :
    Calls Tryd.prog 53 #[.string s] w (AtoiPost (atoiV s.data.toList) w) := by
  unfold AtoiPost atoiV
  cases ha : Lib.atoiAll s.data.toList with
  | ok v =>
    refine (Tryd.strconv_Atoi_ok s (by omega) v ha w).mono ?_
    rintro e w' ⟨rfl, rfl | ⟨t, rfl⟩⟩
    · exact ⟨⟨_, rfl⟩, Below.refl _ _⟩
    · exact ⟨⟨_, rfl⟩, Lib.bytesWorld_below w 5 t⟩
  | range =>
    obtain ⟨tp, p, hv⟩ := h.rng
    refine (Tryd.strconv_Atoi_range s hs ha _ w hv (.inr ⟨_, _, rfl⟩)).mono ?_
    rintro e w' ⟨N, rfl, _, _, hb⟩
    exact ⟨⟨_, rfl⟩, hb⟩
  | _ =>
    obtain ⟨tp, p, hv⟩ := h.syn
    refine (Tryd.strconv_Atoi_syntax s hs ha _ w hv (.inr ⟨_, _, rfl⟩)).mono ?_
    rintro e w' ⟨N, rfl, _, _, hb⟩
    exact ⟨⟨_, rfl⟩, hb⟩
theorem cut_any (s : ByteArray) (hs : s.size ≤ 100) (w : World) (h : Laid w) :
    Calls Tryd.prog 52 #[.string s, .string ⟨#[47]⟩] w fun e w' => e = .returned (.tuple #[.string ⟨(Lib.cut s.data.toList [47]).1.toArray⟩, .string ⟨(Lib.cut s.data.toList [47]).2.1.toArray⟩, .bool (Lib.cut s.data.toList [47]).2.2]) ∧ Below w.heap.size w w' := by
  obtain ⟨m, hm⟩ := h.top
  refine (Tryd.strings_Cut s ⟨#[47]⟩ m w (by omega) hm).mono ?_
  rintro e w' ⟨rfl, n, rfl⟩
  exact ⟨rfl, below_drewN (Below.refl _ _) n⟩
/-- The result's block and the fraction's. -/
structure G2 (w : World) (g : Nat) (a b : Int) (V : World) : Prop where
  has : Has w [(w.heap.size, #[.int .i64 0, .int .i64 0], 23), (g, #[.int .i64 a, .int .i64 b], 23)] V
  ne : g ≠ w.heap.size
theorem G2.step {w V V2 : World} {g : Nat} {a b : Int} (hb : Below V.heap.size V V2) (h : G2 w g a b V) : G2 w g a b V2 := ⟨h.has.step hb, h.ne⟩
theorem G2.rowR {w V : World} {g : Nat} {a b : Int} (h : G2 w g a b V) : V.heap[w.heap.size]? = some (.cells #[.int .i64 0, .int .i64 0] 23 (0, 0)) := h.has.row (by simp)
theorem G2.rowG {w V : World} {g : Nat} {a b : Int} (h : G2 w g a b V) : V.heap[g]? = some (.cells #[.int .i64 a, .int .i64 b] 23 (0, 0)) := h.has.row (by simp)
theorem G2.set0 {w V : World} {g : Nat} {a b : Int} (u : Int) (h : G2 w g a b V) : G2 w g u b (V.setCell ⟨g, 0, none⟩ (.int .i64 u)) := by
  have h1 : Has w [(g, #[.int .i64 a, .int .i64 b], 23), (w.heap.size, #[.int .i64 0, .int .i64 0], 23)] V := h.has.sub (by simp)
  exact ⟨(h1.set (by simp; exact h.ne.symm) 0 (.int .i64 u)).sub (by simp), h.ne⟩
theorem G2.set1 {w V : World} {g : Nat} {a b : Int} (u : Int) (h : G2 w g a b V) : G2 w g a u (V.setCell ⟨g, 1, none⟩ (.int .i64 u)) := by
  have h1 : Has w [(g, #[.int .i64 a, .int .i64 b], 23), (w.heap.size, #[.int .i64 0, .int .i64 0], 23)] V := h.has.sub (by simp)
  exact ⟨(h1.set (by simp; exact h.ne.symm) 1 (.int .i64 u)).sub (by simp), h.ne⟩
theorem G2.all {w V : World} {g : Nat} {a b : Int} (h : G2 w g a b V) : (V.cell? ⟨g, 0, none⟩ = some (.int .i64 a) ∧ V.cell? ⟨g, 1, none⟩ = some (.int .i64 b)) ∧ (V.frozen? ⟨g, 0, none⟩ = false ∧ V.frozen? ⟨g, 1, none⟩ = false) ∧ (V.cell? ⟨w.heap.size, 0, none⟩ = some (.int .i64 0) ∧ V.cell? ⟨w.heap.size, 1, none⟩ = some (.int .i64 0)) ∧ V.frozen? ⟨w.heap.size, 0, none⟩ = false ∧ V.frozen? ⟨w.heap.size, 1, none⟩ = false :=
  ⟨cells2 h.rowG, frozen2 h.rowG, cells2 h.rowR, frozen2 h.rowR⟩
set_option maxHeartbeats 2000000 in
set_option maxRecDepth 100000 in
theorem parse_chk1 (s num aft : ByteArray) (a b : Int) 
    (CU : Hid (∀ w : World, Laid w → Calls Tryd.prog 52 #[.string s, .string ⟨#[47]⟩] w fun e w' => e = .returned (.tuple #[.string num, .string aft, .bool true]) ∧ Below w.heap.size w w'))
    (AN : Hid (∀ w : World, Laid w → Calls Tryd.prog 53 #[.string num] w (AtoiPost a w)))
    (AD : Hid (∀ w : World, Laid w → Calls Tryd.prog 53 #[.string aft] w (AtoiPost b w)))
    (CK : Hid (∀ w : World, Calls Tryd.prog 13 #[.agg #[.int .i64 a, .int .i64 b]] w fun e w' => e = .returned (.int .i64 1) ∧ Below w.heap.size w w'))
    (w : World) (hl : Laid w) :
    Calls Tryd.prog 30 #[.string s] w fun e w' => e = .returned (.tuple #[.agg #[.int .i64 0, .int .i64 0], .int .i64 3]) ∧ Below w.heap.size w w' := by
  have HL := Lib.hid hl
  clear hl
  go_enter Tryd.func30, Tryd.ntmps30
  go_wp2_with fail
  refine (CU.out _ (HL.out.below ((Below.refl _ _).alloc (Nat.le_refl _) _))).mono ?_
  rintro e w1 ⟨rfl, hb1⟩
  have T1 := Lib.hid (((Has.start w).alloc #[.int .i64 0, .int .i64 0] 23).step hb1)
  clear hb1 CU
  have hne : w1.heap.size ≠ w.heap.size := Nat.ne_of_gt (T1.out.lt (List.mem_singleton.2 rfl))
  have T2 : Hid (G2 w w1.heap.size 0 0 (w1.alloc (.cells #[.int .i64 0, .int .i64 0] 23))) := ⟨(T1.out.alloc #[.int .i64 0, .int .i64 0] 23).sub (by simp), hne⟩
  clear T1 hne
  go_upto_region 5 with fail
  generalize w1.alloc (.cells #[.int .i64 0, .int .i64 0] 23) = w2 at *
  generalize w1.heap.size = g at *
  obtain ⟨⟨c0, c1⟩, ⟨f0, f1⟩, _⟩ := T2.out.all
  go_wp2_with fail
  refine (AN.out _ (HL.out.below T2.out.has.1)).mono ?_
  rintro e w3 ⟨⟨ev, rfl⟩, hb3⟩
  have T3 := Lib.hid (G2.step hb3 T2.out)
  clear hb3 AN T2 c0 c1 f0 f1
  obtain ⟨⟨c0, c1⟩, ⟨f0, f1⟩, _⟩ := T3.out.all
  have T4 := Lib.hid (T3.out.set0 a)
  go_upto_region 6 with fail
  clear c0 c1 f0 f1 T3
  generalize w3.setCell ⟨g, 0, none⟩ (.int .i64 a) = w4 at *
  obtain ⟨⟨c0, c1⟩, ⟨f0, f1⟩, _⟩ := T4.out.all
  go_wp2_with fail
  refine (AD.out _ (HL.out.below T4.out.has.1)).mono ?_
  rintro e w5 ⟨⟨ev2, rfl⟩, hb5⟩
  have T5 := Lib.hid (G2.step hb5 T4.out)
  clear hb5 AD T4 c0 c1 f0 f1
  obtain ⟨⟨c0, c1⟩, ⟨f0, f1⟩, _⟩ := T5.out.all
  have T6 := Lib.hid (T5.out.set1 b)
  go_upto_region 7 with fail
  clear c0 c1 f0 f1 T5
  generalize w5.setCell ⟨g, 1, none⟩ (.int .i64 b) = w6 at *
  obtain ⟨⟨c0, c1⟩, _⟩ := T6.out.all
  go_wp2_with fail
  with_reducible refine (CK.out _).mono ?_
  rintro e w7 ⟨rfl, hb7⟩
  have T7 := Lib.hid (G2.step hb7 T6.out)
  clear hb7 CK T6 c0 c1
  obtain ⟨⟨c0, c1⟩, ⟨f0, f1⟩, ⟨r0, r1⟩, e0, e1⟩ := T7.out.all
  go_wp2
  have hC := heap_setCell_same _ _ 1 _ _ (.int .i64 0) (heap_setCell_same _ _ 0 _ _ (.int .i64 0) T7.out.rowR)
  refine bodyPost_ret (res_cell_tmp (u := 3) rfl _ _ w.heap.size 23 _ (0, 0) _ rfl hC Tryd.underlying23 rfl info23) rfl ?_
  exact ⟨rfl, (T7.out.has.1.setCell (Nat.le_refl _) _).setCell (Nat.le_refl _) _⟩
set_option maxHeartbeats 2000000 in
set_option maxRecDepth 100000 in
theorem parse_fmt1 (s num aft : ByteArray) (a b : Int) (t : ByteArray) (hne : (t.toList == s.toList) = false)
    (CU : Hid (∀ w : World, Laid w → Calls Tryd.prog 52 #[.string s, .string ⟨#[47]⟩] w fun e w' => e = .returned (.tuple #[.string num, .string aft, .bool true]) ∧ Below w.heap.size w w'))
    (AN : Hid (∀ w : World, Laid w → Calls Tryd.prog 53 #[.string num] w (AtoiPost a w)))
    (AD : Hid (∀ w : World, Laid w → Calls Tryd.prog 53 #[.string aft] w (AtoiPost b w)))
    (CK : Hid (∀ w : World, Calls Tryd.prog 13 #[.agg #[.int .i64 a, .int .i64 b]] w fun e w' => e = .returned (.int .i64 0) ∧ Below w.heap.size w w'))
    (FO : Hid (∀ w : World, T10 w → Calls Tryd.prog 17 #[.agg #[.int .i64 a, .int .i64 b]] w fun e w' => e = .returned (.string t) ∧ Below w.heap.size w w'))
    (w : World) (hl : Laid w) :
    Calls Tryd.prog 30 #[.string s] w fun e w' => e = .returned (.tuple #[.agg #[.int .i64 0, .int .i64 0], .int .i64 3]) ∧ Below w.heap.size w w' := by
  have HL := Lib.hid hl
  clear hl
  go_enter Tryd.func30, Tryd.ntmps30
  go_wp2_with fail
  refine (CU.out _ (HL.out.below ((Below.refl _ _).alloc (Nat.le_refl _) _))).mono ?_
  rintro e w1 ⟨rfl, hb1⟩
  have T1 := Lib.hid (((Has.start w).alloc #[.int .i64 0, .int .i64 0] 23).step hb1)
  clear hb1 CU
  have hne : w1.heap.size ≠ w.heap.size := Nat.ne_of_gt (T1.out.lt (List.mem_singleton.2 rfl))
  have T2 : Hid (G2 w w1.heap.size 0 0 (w1.alloc (.cells #[.int .i64 0, .int .i64 0] 23))) := ⟨(T1.out.alloc #[.int .i64 0, .int .i64 0] 23).sub (by simp), hne⟩
  clear T1 hne
  go_upto_region 5 with fail
  generalize w1.alloc (.cells #[.int .i64 0, .int .i64 0] 23) = w2 at *
  generalize w1.heap.size = g at *
  obtain ⟨⟨c0, c1⟩, ⟨f0, f1⟩, _⟩ := T2.out.all
  go_wp2_with fail
  refine (AN.out _ (HL.out.below T2.out.has.1)).mono ?_
  rintro e w3 ⟨⟨ev, rfl⟩, hb3⟩
  have T3 := Lib.hid (G2.step hb3 T2.out)
  clear hb3 AN T2 c0 c1 f0 f1
  obtain ⟨⟨c0, c1⟩, ⟨f0, f1⟩, _⟩ := T3.out.all
  have T4 := Lib.hid (T3.out.set0 a)
  go_upto_region 6 with fail
  clear c0 c1 f0 f1 T3
  generalize w3.setCell ⟨g, 0, none⟩ (.int .i64 a) = w4 at *
  obtain ⟨⟨c0, c1⟩, ⟨f0, f1⟩, _⟩ := T4.out.all
  go_wp2_with fail
  refine (AD.out _ (HL.out.below T4.out.has.1)).mono ?_
  rintro e w5 ⟨⟨ev2, rfl⟩, hb5⟩
  have T5 := Lib.hid (G2.step hb5 T4.out)
  clear hb5 AD T4 c0 c1 f0 f1
  obtain ⟨⟨c0, c1⟩, ⟨f0, f1⟩, _⟩ := T5.out.all
  have T6 := Lib.hid (T5.out.set1 b)
  go_upto_region 7 with fail
  clear c0 c1 f0 f1 T5
  generalize w5.setCell ⟨g, 1, none⟩ (.int .i64 b) = w6 at *
  obtain ⟨⟨c0, c1⟩, _⟩ := T6.out.all
  go_wp2_with fail
  with_reducible refine (CK.out _).mono ?_
  rintro e w7 ⟨rfl, hb7⟩
  have T7 := Lib.hid (G2.step hb7 T6.out)
  clear hb7 CK T6 c0 c1
  obtain ⟨⟨c0, c1⟩, ⟨f0, f1⟩, ⟨r0, r1⟩, e0, e1⟩ := T7.out.all
  go_wp2_with fail
  refine (FO.out _ (T10.below HL.out.t10 T7.out.has.1)).mono ?_
  rintro e w8 ⟨rfl, hb8⟩
  have T8 := Lib.hid (G2.step hb8 T7.out)
  clear hb8 FO T7 c0 c1 f0 f1 r0 r1 e0 e1
  obtain ⟨⟨c0, c1⟩, ⟨f0, f1⟩, ⟨r0, r1⟩, e0, e1⟩ := T8.out.all
  go_wp2
  have hC := heap_setCell_same _ _ 1 _ _ (.int .i64 0) (heap_setCell_same _ _ 0 _ _ (.int .i64 0) T8.out.rowR)
  refine bodyPost_ret (res_cell_tmp (u := 3) rfl _ _ w.heap.size 23 _ (0, 0) _ rfl hC Tryd.underlying23 rfl info23) rfl ?_
  exact ⟨rfl, (T8.out.has.1.setCell (Nat.le_refl _) _).setCell (Nat.le_refl _) _⟩
set_option maxHeartbeats 2000000 in
set_option maxRecDepth 100000 in
theorem parse_yes1 (s num aft : ByteArray) (a b : Int) 
    (CU : Hid (∀ w : World, Laid w → Calls Tryd.prog 52 #[.string s, .string ⟨#[47]⟩] w fun e w' => e = .returned (.tuple #[.string num, .string aft, .bool true]) ∧ Below w.heap.size w w'))
    (AN : Hid (∀ w : World, Laid w → Calls Tryd.prog 53 #[.string num] w (AtoiPost a w)))
    (AD : Hid (∀ w : World, Laid w → Calls Tryd.prog 53 #[.string aft] w (AtoiPost b w)))
    (CK : Hid (∀ w : World, Calls Tryd.prog 13 #[.agg #[.int .i64 a, .int .i64 b]] w fun e w' => e = .returned (.int .i64 0) ∧ Below w.heap.size w w'))
    (FO : Hid (∀ w : World, T10 w → Calls Tryd.prog 17 #[.agg #[.int .i64 a, .int .i64 b]] w fun e w' => e = .returned (.string s) ∧ Below w.heap.size w w'))
    (w : World) (hl : Laid w) :
    Calls Tryd.prog 30 #[.string s] w fun e w' => e = .returned (.tuple #[.agg #[.int .i64 a, .int .i64 b], .int .i64 0]) ∧ Below w.heap.size w w' := by
  have HL := Lib.hid hl
  clear hl
  go_enter Tryd.func30, Tryd.ntmps30
  go_wp2_with fail
  refine (CU.out _ (HL.out.below ((Below.refl _ _).alloc (Nat.le_refl _) _))).mono ?_
  rintro e w1 ⟨rfl, hb1⟩
  have T1 := Lib.hid (((Has.start w).alloc #[.int .i64 0, .int .i64 0] 23).step hb1)
  clear hb1 CU
  have hne : w1.heap.size ≠ w.heap.size := Nat.ne_of_gt (T1.out.lt (List.mem_singleton.2 rfl))
  have T2 : Hid (G2 w w1.heap.size 0 0 (w1.alloc (.cells #[.int .i64 0, .int .i64 0] 23))) := ⟨(T1.out.alloc #[.int .i64 0, .int .i64 0] 23).sub (by simp), hne⟩
  clear T1 hne
  go_upto_region 5 with fail
  generalize w1.alloc (.cells #[.int .i64 0, .int .i64 0] 23) = w2 at *
  generalize w1.heap.size = g at *
  obtain ⟨⟨c0, c1⟩, ⟨f0, f1⟩, _⟩ := T2.out.all
  go_wp2_with fail
  refine (AN.out _ (HL.out.below T2.out.has.1)).mono ?_
  rintro e w3 ⟨⟨ev, rfl⟩, hb3⟩
  have T3 := Lib.hid (G2.step hb3 T2.out)
  clear hb3 AN T2 c0 c1 f0 f1
  obtain ⟨⟨c0, c1⟩, ⟨f0, f1⟩, _⟩ := T3.out.all
  have T4 := Lib.hid (T3.out.set0 a)
  go_upto_region 6 with fail
  clear c0 c1 f0 f1 T3
  generalize w3.setCell ⟨g, 0, none⟩ (.int .i64 a) = w4 at *
  obtain ⟨⟨c0, c1⟩, ⟨f0, f1⟩, _⟩ := T4.out.all
  go_wp2_with fail
  refine (AD.out _ (HL.out.below T4.out.has.1)).mono ?_
  rintro e w5 ⟨⟨ev2, rfl⟩, hb5⟩
  have T5 := Lib.hid (G2.step hb5 T4.out)
  clear hb5 AD T4 c0 c1 f0 f1
  obtain ⟨⟨c0, c1⟩, ⟨f0, f1⟩, _⟩ := T5.out.all
  have T6 := Lib.hid (T5.out.set1 b)
  go_upto_region 7 with fail
  clear c0 c1 f0 f1 T5
  generalize w5.setCell ⟨g, 1, none⟩ (.int .i64 b) = w6 at *
  obtain ⟨⟨c0, c1⟩, _⟩ := T6.out.all
  go_wp2_with fail
  with_reducible refine (CK.out _).mono ?_
  rintro e w7 ⟨rfl, hb7⟩
  have T7 := Lib.hid (G2.step hb7 T6.out)
  clear hb7 CK T6 c0 c1
  obtain ⟨⟨c0, c1⟩, ⟨f0, f1⟩, ⟨r0, r1⟩, e0, e1⟩ := T7.out.all
  go_wp2_with fail
  refine (FO.out _ (T10.below HL.out.t10 T7.out.has.1)).mono ?_
  rintro e w8 ⟨rfl, hb8⟩
  have T8 := Lib.hid (G2.step hb8 T7.out)
  clear hb8 FO T7 c0 c1 f0 f1 r0 r1 e0 e1
  obtain ⟨⟨c0, c1⟩, ⟨f0, f1⟩, ⟨r0, r1⟩, e0, e1⟩ := T8.out.all
  go_wp2
  have hC := heap_setCell_same _ _ 1 _ _ (.int .i64 b) (heap_setCell_same _ _ 0 _ _ (.int .i64 a) T8.out.rowR)
  refine bodyPost_ret (res_cell_tmp (u := 3) rfl _ _ w.heap.size 23 _ (0, 0) _ rfl hC Tryd.underlying23 rfl info23) rfl ?_
  exact ⟨rfl, (T8.out.has.1.setCell (Nat.le_refl _) _).setCell (Nat.le_refl _) _⟩
set_option maxHeartbeats 2000000 in
set_option maxRecDepth 100000 in
theorem parse_chk0 (s num aft : ByteArray) (a b : Int) 
    (CU : Hid (∀ w : World, Laid w → Calls Tryd.prog 52 #[.string s, .string ⟨#[47]⟩] w fun e w' => e = .returned (.tuple #[.string num, .string aft, .bool false]) ∧ Below w.heap.size w w'))
    (AN : Hid (∀ w : World, Laid w → Calls Tryd.prog 53 #[.string num] w (AtoiPost a w)))
    (AD : Hid (∀ w : World, Laid w → Calls Tryd.prog 53 #[.string ⟨#[49]⟩] w (AtoiPost b w)))
    (CK : Hid (∀ w : World, Calls Tryd.prog 13 #[.agg #[.int .i64 a, .int .i64 b]] w fun e w' => e = .returned (.int .i64 1) ∧ Below w.heap.size w w'))
    (w : World) (hl : Laid w) :
    Calls Tryd.prog 30 #[.string s] w fun e w' => e = .returned (.tuple #[.agg #[.int .i64 0, .int .i64 0], .int .i64 3]) ∧ Below w.heap.size w w' := by
  have HL := Lib.hid hl
  clear hl
  go_enter Tryd.func30, Tryd.ntmps30
  go_wp2_with fail
  refine (CU.out _ (HL.out.below ((Below.refl _ _).alloc (Nat.le_refl _) _))).mono ?_
  rintro e w1 ⟨rfl, hb1⟩
  have T1 := Lib.hid (((Has.start w).alloc #[.int .i64 0, .int .i64 0] 23).step hb1)
  clear hb1 CU
  have hne : w1.heap.size ≠ w.heap.size := Nat.ne_of_gt (T1.out.lt (List.mem_singleton.2 rfl))
  have T2 : Hid (G2 w w1.heap.size 0 0 (w1.alloc (.cells #[.int .i64 0, .int .i64 0] 23))) := ⟨(T1.out.alloc #[.int .i64 0, .int .i64 0] 23).sub (by simp), hne⟩
  clear T1 hne
  go_upto_region 5 with fail
  generalize w1.alloc (.cells #[.int .i64 0, .int .i64 0] 23) = w2 at *
  generalize w1.heap.size = g at *
  obtain ⟨⟨c0, c1⟩, ⟨f0, f1⟩, _⟩ := T2.out.all
  go_wp2_with fail
  refine (AN.out _ (HL.out.below T2.out.has.1)).mono ?_
  rintro e w3 ⟨⟨ev, rfl⟩, hb3⟩
  have T3 := Lib.hid (G2.step hb3 T2.out)
  clear hb3 AN T2 c0 c1 f0 f1
  obtain ⟨⟨c0, c1⟩, ⟨f0, f1⟩, _⟩ := T3.out.all
  have T4 := Lib.hid (T3.out.set0 a)
  go_upto_region 6 with fail
  clear c0 c1 f0 f1 T3
  generalize w3.setCell ⟨g, 0, none⟩ (.int .i64 a) = w4 at *
  obtain ⟨⟨c0, c1⟩, ⟨f0, f1⟩, _⟩ := T4.out.all
  go_wp2_with fail
  refine (AD.out _ (HL.out.below T4.out.has.1)).mono ?_
  rintro e w5 ⟨⟨ev2, rfl⟩, hb5⟩
  have T5 := Lib.hid (G2.step hb5 T4.out)
  clear hb5 AD T4 c0 c1 f0 f1
  obtain ⟨⟨c0, c1⟩, ⟨f0, f1⟩, _⟩ := T5.out.all
  have T6 := Lib.hid (T5.out.set1 b)
  go_upto_region 7 with fail
  clear c0 c1 f0 f1 T5
  generalize w5.setCell ⟨g, 1, none⟩ (.int .i64 b) = w6 at *
  obtain ⟨⟨c0, c1⟩, _⟩ := T6.out.all
  go_wp2_with fail
  with_reducible refine (CK.out _).mono ?_
  rintro e w7 ⟨rfl, hb7⟩
  have T7 := Lib.hid (G2.step hb7 T6.out)
  clear hb7 CK T6 c0 c1
  obtain ⟨⟨c0, c1⟩, ⟨f0, f1⟩, ⟨r0, r1⟩, e0, e1⟩ := T7.out.all
  go_wp2
  have hC := heap_setCell_same _ _ 1 _ _ (.int .i64 0) (heap_setCell_same _ _ 0 _ _ (.int .i64 0) T7.out.rowR)
  refine bodyPost_ret (res_cell_tmp (u := 3) rfl _ _ w.heap.size 23 _ (0, 0) _ rfl hC Tryd.underlying23 rfl info23) rfl ?_
  exact ⟨rfl, (T7.out.has.1.setCell (Nat.le_refl _) _).setCell (Nat.le_refl _) _⟩
set_option maxHeartbeats 2000000 in
set_option maxRecDepth 100000 in
theorem parse_fmt0 (s num aft : ByteArray) (a b : Int) (t : ByteArray) (hne : (t.toList == s.toList) = false)
    (CU : Hid (∀ w : World, Laid w → Calls Tryd.prog 52 #[.string s, .string ⟨#[47]⟩] w fun e w' => e = .returned (.tuple #[.string num, .string aft, .bool false]) ∧ Below w.heap.size w w'))
    (AN : Hid (∀ w : World, Laid w → Calls Tryd.prog 53 #[.string num] w (AtoiPost a w)))
    (AD : Hid (∀ w : World, Laid w → Calls Tryd.prog 53 #[.string ⟨#[49]⟩] w (AtoiPost b w)))
    (CK : Hid (∀ w : World, Calls Tryd.prog 13 #[.agg #[.int .i64 a, .int .i64 b]] w fun e w' => e = .returned (.int .i64 0) ∧ Below w.heap.size w w'))
    (FO : Hid (∀ w : World, T10 w → Calls Tryd.prog 17 #[.agg #[.int .i64 a, .int .i64 b]] w fun e w' => e = .returned (.string t) ∧ Below w.heap.size w w'))
    (w : World) (hl : Laid w) :
    Calls Tryd.prog 30 #[.string s] w fun e w' => e = .returned (.tuple #[.agg #[.int .i64 0, .int .i64 0], .int .i64 3]) ∧ Below w.heap.size w w' := by
  have HL := Lib.hid hl
  clear hl
  go_enter Tryd.func30, Tryd.ntmps30
  go_wp2_with fail
  refine (CU.out _ (HL.out.below ((Below.refl _ _).alloc (Nat.le_refl _) _))).mono ?_
  rintro e w1 ⟨rfl, hb1⟩
  have T1 := Lib.hid (((Has.start w).alloc #[.int .i64 0, .int .i64 0] 23).step hb1)
  clear hb1 CU
  have hne : w1.heap.size ≠ w.heap.size := Nat.ne_of_gt (T1.out.lt (List.mem_singleton.2 rfl))
  have T2 : Hid (G2 w w1.heap.size 0 0 (w1.alloc (.cells #[.int .i64 0, .int .i64 0] 23))) := ⟨(T1.out.alloc #[.int .i64 0, .int .i64 0] 23).sub (by simp), hne⟩
  clear T1 hne
  go_upto_region 5 with fail
  generalize w1.alloc (.cells #[.int .i64 0, .int .i64 0] 23) = w2 at *
  generalize w1.heap.size = g at *
  obtain ⟨⟨c0, c1⟩, ⟨f0, f1⟩, _⟩ := T2.out.all
  go_wp2_with fail
  refine (AN.out _ (HL.out.below T2.out.has.1)).mono ?_
  rintro e w3 ⟨⟨ev, rfl⟩, hb3⟩
  have T3 := Lib.hid (G2.step hb3 T2.out)
  clear hb3 AN T2 c0 c1 f0 f1
  obtain ⟨⟨c0, c1⟩, ⟨f0, f1⟩, _⟩ := T3.out.all
  have T4 := Lib.hid (T3.out.set0 a)
  go_upto_region 6 with fail
  clear c0 c1 f0 f1 T3
  generalize w3.setCell ⟨g, 0, none⟩ (.int .i64 a) = w4 at *
  obtain ⟨⟨c0, c1⟩, ⟨f0, f1⟩, _⟩ := T4.out.all
  go_wp2_with fail
  refine (AD.out _ (HL.out.below T4.out.has.1)).mono ?_
  rintro e w5 ⟨⟨ev2, rfl⟩, hb5⟩
  have T5 := Lib.hid (G2.step hb5 T4.out)
  clear hb5 AD T4 c0 c1 f0 f1
  obtain ⟨⟨c0, c1⟩, ⟨f0, f1⟩, _⟩ := T5.out.all
  have T6 := Lib.hid (T5.out.set1 b)
  go_upto_region 7 with fail
  clear c0 c1 f0 f1 T5
  generalize w5.setCell ⟨g, 1, none⟩ (.int .i64 b) = w6 at *
  obtain ⟨⟨c0, c1⟩, _⟩ := T6.out.all
  go_wp2_with fail
  with_reducible refine (CK.out _).mono ?_
  rintro e w7 ⟨rfl, hb7⟩
  have T7 := Lib.hid (G2.step hb7 T6.out)
  clear hb7 CK T6 c0 c1
  obtain ⟨⟨c0, c1⟩, ⟨f0, f1⟩, ⟨r0, r1⟩, e0, e1⟩ := T7.out.all
  go_wp2_with fail
  refine (FO.out _ (T10.below HL.out.t10 T7.out.has.1)).mono ?_
  rintro e w8 ⟨rfl, hb8⟩
  have T8 := Lib.hid (G2.step hb8 T7.out)
  clear hb8 FO T7 c0 c1 f0 f1 r0 r1 e0 e1
  obtain ⟨⟨c0, c1⟩, ⟨f0, f1⟩, ⟨r0, r1⟩, e0, e1⟩ := T8.out.all
  go_wp2
  have hC := heap_setCell_same _ _ 1 _ _ (.int .i64 0) (heap_setCell_same _ _ 0 _ _ (.int .i64 0) T8.out.rowR)
  refine bodyPost_ret (res_cell_tmp (u := 3) rfl _ _ w.heap.size 23 _ (0, 0) _ rfl hC Tryd.underlying23 rfl info23) rfl ?_
  exact ⟨rfl, (T8.out.has.1.setCell (Nat.le_refl _) _).setCell (Nat.le_refl _) _⟩
set_option maxHeartbeats 2000000 in
set_option maxRecDepth 100000 in
theorem parse_yes0 (s num aft : ByteArray) (a b : Int) 
    (CU : Hid (∀ w : World, Laid w → Calls Tryd.prog 52 #[.string s, .string ⟨#[47]⟩] w fun e w' => e = .returned (.tuple #[.string num, .string aft, .bool false]) ∧ Below w.heap.size w w'))
    (AN : Hid (∀ w : World, Laid w → Calls Tryd.prog 53 #[.string num] w (AtoiPost a w)))
    (AD : Hid (∀ w : World, Laid w → Calls Tryd.prog 53 #[.string ⟨#[49]⟩] w (AtoiPost b w)))
    (CK : Hid (∀ w : World, Calls Tryd.prog 13 #[.agg #[.int .i64 a, .int .i64 b]] w fun e w' => e = .returned (.int .i64 0) ∧ Below w.heap.size w w'))
    (FO : Hid (∀ w : World, T10 w → Calls Tryd.prog 17 #[.agg #[.int .i64 a, .int .i64 b]] w fun e w' => e = .returned (.string s) ∧ Below w.heap.size w w'))
    (w : World) (hl : Laid w) :
    Calls Tryd.prog 30 #[.string s] w fun e w' => e = .returned (.tuple #[.agg #[.int .i64 a, .int .i64 b], .int .i64 0]) ∧ Below w.heap.size w w' := by
  have HL := Lib.hid hl
  clear hl
  go_enter Tryd.func30, Tryd.ntmps30
  go_wp2_with fail
  refine (CU.out _ (HL.out.below ((Below.refl _ _).alloc (Nat.le_refl _) _))).mono ?_
  rintro e w1 ⟨rfl, hb1⟩
  have T1 := Lib.hid (((Has.start w).alloc #[.int .i64 0, .int .i64 0] 23).step hb1)
  clear hb1 CU
  have hne : w1.heap.size ≠ w.heap.size := Nat.ne_of_gt (T1.out.lt (List.mem_singleton.2 rfl))
  have T2 : Hid (G2 w w1.heap.size 0 0 (w1.alloc (.cells #[.int .i64 0, .int .i64 0] 23))) := ⟨(T1.out.alloc #[.int .i64 0, .int .i64 0] 23).sub (by simp), hne⟩
  clear T1 hne
  go_upto_region 5 with fail
  generalize w1.alloc (.cells #[.int .i64 0, .int .i64 0] 23) = w2 at *
  generalize w1.heap.size = g at *
  obtain ⟨⟨c0, c1⟩, ⟨f0, f1⟩, _⟩ := T2.out.all
  go_wp2_with fail
  refine (AN.out _ (HL.out.below T2.out.has.1)).mono ?_
  rintro e w3 ⟨⟨ev, rfl⟩, hb3⟩
  have T3 := Lib.hid (G2.step hb3 T2.out)
  clear hb3 AN T2 c0 c1 f0 f1
  obtain ⟨⟨c0, c1⟩, ⟨f0, f1⟩, _⟩ := T3.out.all
  have T4 := Lib.hid (T3.out.set0 a)
  go_upto_region 6 with fail
  clear c0 c1 f0 f1 T3
  generalize w3.setCell ⟨g, 0, none⟩ (.int .i64 a) = w4 at *
  obtain ⟨⟨c0, c1⟩, ⟨f0, f1⟩, _⟩ := T4.out.all
  go_wp2_with fail
  refine (AD.out _ (HL.out.below T4.out.has.1)).mono ?_
  rintro e w5 ⟨⟨ev2, rfl⟩, hb5⟩
  have T5 := Lib.hid (G2.step hb5 T4.out)
  clear hb5 AD T4 c0 c1 f0 f1
  obtain ⟨⟨c0, c1⟩, ⟨f0, f1⟩, _⟩ := T5.out.all
  have T6 := Lib.hid (T5.out.set1 b)
  go_upto_region 7 with fail
  clear c0 c1 f0 f1 T5
  generalize w5.setCell ⟨g, 1, none⟩ (.int .i64 b) = w6 at *
  obtain ⟨⟨c0, c1⟩, _⟩ := T6.out.all
  go_wp2_with fail
  with_reducible refine (CK.out _).mono ?_
  rintro e w7 ⟨rfl, hb7⟩
  have T7 := Lib.hid (G2.step hb7 T6.out)
  clear hb7 CK T6 c0 c1
  obtain ⟨⟨c0, c1⟩, ⟨f0, f1⟩, ⟨r0, r1⟩, e0, e1⟩ := T7.out.all
  go_wp2_with fail
  refine (FO.out _ (T10.below HL.out.t10 T7.out.has.1)).mono ?_
  rintro e w8 ⟨rfl, hb8⟩
  have T8 := Lib.hid (G2.step hb8 T7.out)
  clear hb8 FO T7 c0 c1 f0 f1 r0 r1 e0 e1
  obtain ⟨⟨c0, c1⟩, ⟨f0, f1⟩, ⟨r0, r1⟩, e0, e1⟩ := T8.out.all
  go_wp2
  have hC := heap_setCell_same _ _ 1 _ _ (.int .i64 b) (heap_setCell_same _ _ 0 _ _ (.int .i64 a) T8.out.rowR)
  refine bodyPost_ret (res_cell_tmp (u := 3) rfl _ _ w.heap.size 23 _ (0, 0) _ rfl hC Tryd.underlying23 rfl info23) rfl ?_
  exact ⟨rfl, (T8.out.has.1.setCell (Nat.le_refl _) _).setCell (Nat.le_refl _) _⟩
end Go.Proofs.YtbhlpcomgfmodaaDoor.Pro
