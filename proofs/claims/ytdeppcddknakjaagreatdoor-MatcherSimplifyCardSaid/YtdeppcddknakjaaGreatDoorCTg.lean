
/- Layer 6: repeated nodes of the reference. Layer 6: atoms of the reference. Layer 6: atoms of the reference: escapes, parentheses. Layer 6: what the reference's expression keeps. Layer 6: the reference's expression: laws and what follows each step. Layer 6: the reference's expression. -/
import Derived.Test.YtdeppcddknakjaaGreatDoorCTa
import Derived.Laws.AppendOwnNone
import Derived.Maps.AppendAt
import Derived.OwnWalk
import Derived.StillTailTactics
set_option maxRecDepth 100000
set_option linter.unusedVariables false
set_option linter.unusedSimpArgs false
namespace Go.Proofs.YtdeppcddknakjaaGreatDoor.Rx
open Go.RowKit
section
variable {P : Program}
/-- A slice of two elements of many cells. -/
theorem wpList_buildSlice_two {ops : Array Oper} {rest : List Oper} {o : Oper} {a : Act} {w : World} {Q : Exit → Act → World → Prop} (hgd : o.guard = none) (t e : TypeId) (x y : Operand) (ho : o.op = .buildSlice t 2 #[(0, x), (1, y)])
  (l m : List Value) (hx : a.eval x = .agg l.toArray) (hy : a.eval y = .agg m.toArray) (n : Nat) (hn : l.length = n) (hm : m.length = n) (h0 : 0 < n) (hsm : n ≤ 2 ^ 22) (z : Value)
  (hu : P.underlying t = some (.slice e)) (hi : (P.info? e).map (fun i => (i.zero, i.size)) = some (some z, n))
  (h : ∀ g w', Hid (w.heap.size = g) → Hid (Blk w' g e (l ++ m)) → Hid (Below w.heap.size w w') → Hid (w'.heap.size = g + 1) → wpList P ops Q rest (a.put o.dst (.slice (some ⟨g, 0, none⟩) 2 2)) w') : wpList P ops Q (o :: rest) a w := by
 cases hq : P.info? e with
 | none => rw [hq] at hi; cases hi
 | some ie =>
  rw [hq] at hi
  simp only [Option.map_some, Option.some.injEq, Prod.mk.injEq] at hi
  obtain ⟨hz, hs⟩ := hi
  refine Go.wpList_buildSlice hgd t e 2 #[(0, x), (1, y)] ho (l ++ m).toArray ie z hu hq hz (by rw [hs]; omega) (by rw [hs]; omega) ?_ (h w.heap.size _ rfl (Blk.new w e (l ++ m)) ((Below.refl _ _).alloc (Nat.le_refl _) _) (by show (World.alloc _ _).heap.size = _; rw [World.size_alloc]))
  rw [hs]
  have e0 : (#[(0, x), (1, y)].map fun ((i, x) : Nat × Operand) => (i, a.eval x)).toList = [(0, a.eval x), (1, a.eval y)] := by simp
  rw [e0, hx, hy]
  have hl : (Value.agg l.toArray).cells.size = n := by simpa [Value.cells] using hn
  have hl2 : (Value.agg m.toArray).cells.size = n := by simpa [Value.cells] using hm
  have := Great.fill_whole (s := n) h0 [Value.agg l.toArray, Value.agg m.toArray] ((Array.range (2 * n)).map (z.cells[· % z.cells.size]!)) (fun v hv => by
   simp only [List.mem_cons, List.not_mem_nil, or_false] at hv
   rcases hv with rfl | rfl
   ·exact hl
   ·exact hl2) (by simp)
  simpa [Value.cells] using this
end
theorem info50 : (Tryz.prog.info? 102).map (fun i => (i.zero, i.size, i.bytes)) = some (some (.agg Z50.toArray), 259, 296) := by kernel_rfl
theorem info50s : (Tryz.prog.info? 102).map (fun i => (i.zero, i.size)) = some (some (.agg Z50.toArray), 259) := by kernel_rfl
/-- What repeated returns. -/
def RepP' (T : Nat → Prop) (r : Re) (c : UInt8) (w : World) (e : Ending) (w' : World) : Prop := ∃ D, e = .returned (.agg D.toArray) ∧ Hid (ReV w' (fun n => T n ∨ Fresh w w' n) D (repRe r c)) ∧ Hid (Below w.heap.size w w')
set_option maxHeartbeats 4000000 in
set_option maxRecDepth 100000 in
theorem repeated_star (T : Nat → Prop) (C : List Value) (r : Re) (w : World) (hr : ReV w T C r) (hT : ∀ n, T n → n < w.heap.size) : Calls Tryz.prog 158 #[.agg C.toArray, .int .u8 42] w (RepP' T r 42 w) := by
 have HC := Lib.hid hr.len
 have HR := Lib.hid hr
 have HT := Lib.hid hT
 have kb : Hid (Blk (w.alloc (.cells C.toArray 102)) w.heap.size 102 C) := Blk.new w 102 C
 have bb : Hid (Below w.heap.size w (w.alloc (.cells C.toArray 102))) := (Below.refl _ _).alloc (Nat.le_refl _) _
 have sb : Hid ((w.alloc (.cells C.toArray 102)).heap.size = w.heap.size + 1) := World.size_alloc _ _
 have ZL := Lib.hid Z50_len
 have ZZ := Lib.hid zero50'
 have IS := Lib.hid info50s
 generalize Z50 = Z at ZL ZZ IS
 have BA : Hid (∀ g, ∃ L : List Value, Tryz.prog.built 102 [(0, .int .i64 4), (3, .slice (some ⟨g, 0, none⟩) 1 1)] = some L.toArray ∧ L = nodL 4 none_ false (.slice (some ⟨g, 0, none⟩) 1 1) ∧ L.length = 259 ∧ ∀ v ∈ L, v.oneCell' = true) := fun g => ⟨_, built_args 4 rfl, rfl, nodL_len _ _ _ _, nodL_one _ _ _ rfl⟩
 clear hr hT
 go_enter Tryz.func158, Tryz.ntmps158
 go_wp2_with (first
  | ((with_reducible refine wpList_alloc_abs (o := ⟨some 4, .alloc 102, _, _, _, _⟩) rfl 102 rfl Z ZZ.out ?_); intro g1 w1 e1 k1 b1 s1)
  | ((with_reducible refine wpList_load_abs (o := ⟨_, .load 102 (.tmp 2), _, _, _, _⟩) rfl 102 _ rfl w.heap.size 0 ?_ C ((kb.out.below b1.out (by have := sb.out; omega)).range) _ Tryz.underlying102 rfl 259 size50 HC.out.1 ?_); (· rfl))
  | ((with_reducible refine wpList_buildSlice_abs (o := ⟨_, .buildSlice 100 1 #[(0, .tmp 7)], _, _, _, _⟩) rfl 100 102 (.tmp 7) rfl C ?_ 259 HC.out.1 (by omega) (by omega) (.agg Z.toArray) Tryz.underlying100 IS.out ?_); (· rfl); intro g3 w3 e3 k3 b3 s3; obtain ⟨L, hL1, hL2, hL3, hL4⟩ := BA.out g3; have HL1 := Lib.hid hL1; have HL2 := Lib.hid hL2; have HL3 := Lib.hid hL3; have HL4 := Lib.hid hL4; clear hL1 hL2 hL3 hL4)
  | ((with_reducible refine wpList_build_abs (o := ⟨_, .build 102 _, _, _, _, _⟩) rfl 102 _ rfl [(0, .int .i64 4), (3, .slice (some ⟨g3, 0, none⟩) 1 1)] ?_ L HL1.out ?_); (· first | (simp; done) | (simp; rfl) | (simp; exact ⟨rfl, rfl⟩)))
  | ((with_reducible refine wpList_store_abs (o := ⟨_, .store 102 (.tmp 4) (.tmp 9), _, _, _, _⟩) rfl 102 _ _ rfl rfl g1 L ?_ ?_ 102 Z (k1.out.below b3.out k1.out.lt) 259 size50 HL3.out ZL.out HL4.out ?_); (· rfl); (· rfl); intro w5 k5 b5 s5))
 have G : Hid (w.heap.size < g1 ∧ g1 < g3 ∧ g3 < w5.heap.size) := ⟨by have := e1.out; have := sb.out; omega, by have := e3.out; have := k1.out.lt; omega, by have := k3.out.lt; have := b5.out.size; omega⟩
 have kf := k5.out
 refine bodyPost_ret (results_cell_row rfl _ _ g1 102 L.toArray (0, 0) _ rfl k5.out Tryz.underlying102 rfl (by simpa [HL3.out] using size50)) rfl ?_
 have k35 : Blk w5 g3 102 C := k3.out.but b5.out (by have := G.out; omega)
 have BF : Below w.heap.size w w5 := bb.out.trans ((b1.out.mono (by have := sb.out; omega)).trans ((b3.out.mono (by have := sb.out; have := b1.out.size; omega)).trans (b5.out.below (by have := sb.out; have := b1.out.size; have := b3.out.size; omega) (fun n hn => by have := G.out; omega))))
 refine ⟨L, rfl, ?_, BF⟩
 show ReV _ _ _ (.star r)
 rw [ReV]
 exact ⟨g3, HL2.out, .inr ⟨by have := G.out; omega, (G.out).2.2⟩, C, k35.range, HR.out.keep (fun n h => .inl h) (fun b j hb => BF.cell (p := ⟨b, j, none⟩) (HT.out b hb))⟩
set_option maxHeartbeats 4000000 in
set_option maxRecDepth 100000 in
theorem repeated_plus (T : Nat → Prop) (C : List Value) (r : Re) (w : World) (hr : ReV w T C r) (hT : ∀ n, T n → n < w.heap.size) : Calls Tryz.prog 158 #[.agg C.toArray, .int .u8 43] w (RepP' T r 43 w) := by
 have HC := Lib.hid hr.len
 have HR := Lib.hid hr
 have HT := Lib.hid hT
 have kb : Hid (Blk (w.alloc (.cells C.toArray 102)) w.heap.size 102 C) := Blk.new w 102 C
 have bb : Hid (Below w.heap.size w (w.alloc (.cells C.toArray 102))) := (Below.refl _ _).alloc (Nat.le_refl _) _
 have sb : Hid ((w.alloc (.cells C.toArray 102)).heap.size = w.heap.size + 1) := World.size_alloc _ _
 have ZL := Lib.hid Z50_len
 have ZZ := Lib.hid zero50'
 have IS := Lib.hid info50s
 generalize Z50 = Z at ZL ZZ IS
 have BA : Hid (∀ g, ∃ L : List Value, Tryz.prog.built 102 [(0, .int .i64 5), (3, .slice (some ⟨g, 0, none⟩) 1 1)] = some L.toArray ∧ L = nodL 5 none_ false (.slice (some ⟨g, 0, none⟩) 1 1) ∧ L.length = 259 ∧ ∀ v ∈ L, v.oneCell' = true) := fun g => ⟨_, built_args 5 rfl, rfl, nodL_len _ _ _ _, nodL_one _ _ _ rfl⟩
 clear hr hT
 go_enter Tryz.func158, Tryz.ntmps158
 go_wp2_with (first
  | ((with_reducible refine wpList_alloc_abs (o := ⟨some 4, .alloc 102, _, _, _, _⟩) rfl 102 rfl Z ZZ.out ?_); intro g1 w1 e1 k1 b1 s1)
  | ((with_reducible refine wpList_load_abs (o := ⟨_, .load 102 (.tmp 2), _, _, _, _⟩) rfl 102 _ rfl w.heap.size 0 ?_ C ((kb.out.below b1.out (by have := sb.out; omega)).range) _ Tryz.underlying102 rfl 259 size50 HC.out.1 ?_); (· rfl))
  | ((with_reducible refine wpList_buildSlice_abs (o := ⟨_, .buildSlice 100 1 #[(0, .tmp 12)], _, _, _, _⟩) rfl 100 102 (.tmp 12) rfl C ?_ 259 HC.out.1 (by omega) (by omega) (.agg Z.toArray) Tryz.underlying100 IS.out ?_); (· rfl); intro g3 w3 e3 k3 b3 s3; obtain ⟨L, hL1, hL2, hL3, hL4⟩ := BA.out g3; have HL1 := Lib.hid hL1; have HL2 := Lib.hid hL2; have HL3 := Lib.hid hL3; have HL4 := Lib.hid hL4; clear hL1 hL2 hL3 hL4)
  | ((with_reducible refine wpList_build_abs (o := ⟨_, .build 102 _, _, _, _, _⟩) rfl 102 _ rfl [(0, .int .i64 5), (3, .slice (some ⟨g3, 0, none⟩) 1 1)] ?_ L HL1.out ?_); (· first | (simp; done) | (simp; rfl) | (simp; exact ⟨rfl, rfl⟩)))
  | ((with_reducible refine wpList_store_abs (o := ⟨_, .store 102 (.tmp 4) (.tmp 14), _, _, _, _⟩) rfl 102 _ _ rfl rfl g1 L ?_ ?_ 102 Z (k1.out.below b3.out k1.out.lt) 259 size50 HL3.out ZL.out HL4.out ?_); (· rfl); (· rfl); intro w5 k5 b5 s5))
 have G : Hid (w.heap.size < g1 ∧ g1 < g3 ∧ g3 < w5.heap.size) := ⟨by have := e1.out; have := sb.out; omega, by have := e3.out; have := k1.out.lt; omega, by have := k3.out.lt; have := b5.out.size; omega⟩
 have kf := k5.out
 refine bodyPost_ret (results_cell_row rfl _ _ g1 102 L.toArray (0, 0) _ rfl k5.out Tryz.underlying102 rfl (by simpa [HL3.out] using size50)) rfl ?_
 have k35 : Blk w5 g3 102 C := k3.out.but b5.out (by have := G.out; omega)
 have BF : Below w.heap.size w w5 := bb.out.trans ((b1.out.mono (by have := sb.out; omega)).trans ((b3.out.mono (by have := sb.out; have := b1.out.size; omega)).trans (b5.out.below (by have := sb.out; have := b1.out.size; have := b3.out.size; omega) (fun n hn => by have := G.out; omega))))
 refine ⟨L, rfl, ?_, BF⟩
 show ReV _ _ _ (.plus r)
 rw [ReV]
 exact ⟨g3, HL2.out, .inr ⟨by have := G.out; omega, (G.out).2.2⟩, C, k35.range, HR.out.keep (fun n h => .inl h) (fun b j hb => BF.cell (p := ⟨b, j, none⟩) (HT.out b hb))⟩
set_option maxHeartbeats 4000000 in
set_option maxRecDepth 100000 in
theorem repeated_opt (T : Nat → Prop) (C : List Value) (r : Re) (w : World) (hr : ReV w T C r) (hT : ∀ n, T n → n < w.heap.size) : Calls Tryz.prog 158 #[.agg C.toArray, .int .u8 63] w (RepP' T r 63 w) := by
 have HC := Lib.hid hr.len
 have HR := Lib.hid hr
 have HT := Lib.hid hT
 have kb : Hid (Blk (w.alloc (.cells C.toArray 102)) w.heap.size 102 C) := Blk.new w 102 C
 have bb : Hid (Below w.heap.size w (w.alloc (.cells C.toArray 102))) := (Below.refl _ _).alloc (Nat.le_refl _) _
 have sb : Hid ((w.alloc (.cells C.toArray 102)).heap.size = w.heap.size + 1) := World.size_alloc _ _
 have ZL := Lib.hid Z50_len
 have ZZ := Lib.hid zero50'
 have IS := Lib.hid info50s
 generalize Z50 = Z at ZL ZZ IS
 obtain ⟨K, hK⟩ : ∃ K, K = nodL 2 none_ false (.slice none 0 0) := ⟨_, rfl⟩
 have BK : Hid (Tryz.prog.built 102 [(0, .int .i64 2)] = some K.toArray) := by rw [hK]; exact built_kind _
 have HK : Hid (K.length = 259 ∧ ∀ v ∈ K, v.oneCell' = true) := by rw [hK]; exact nod_ok _ _ _
 have EK := Lib.hid hK
 have BA : Hid (∀ g, ∃ L : List Value, Tryz.prog.built 102 [(0, .int .i64 3), (3, .slice (some ⟨g, 0, none⟩) 2 2)] = some L.toArray ∧ L = nodL 3 none_ false (.slice (some ⟨g, 0, none⟩) 2 2) ∧ L.length = 259 ∧ ∀ v ∈ L, v.oneCell' = true) := fun g => ⟨_, built_args 3 rfl, rfl, nodL_len _ _ _ _, nodL_one _ _ _ rfl⟩
 clear hr hT hK
 go_enter Tryz.func158, Tryz.ntmps158
 go_wp2_with (first
  | ((with_reducible refine wpList_alloc_abs (o := ⟨some 4, .alloc 102, _, _, _, _⟩) rfl 102 rfl Z ZZ.out ?_); intro g1 w1 e1 k1 b1 s1)
  | ((with_reducible refine wpList_build_abs (o := ⟨_, .build 102 _, _, _, _, _⟩) rfl 102 _ rfl [(0, .int .i64 2)] ?_ K BK.out ?_); (· first | (simp; done) | (simp; rfl) | (simp; exact ⟨rfl, rfl⟩)))
  | ((with_reducible refine wpList_load_abs (o := ⟨_, .load 102 (.tmp 2), _, _, _, _⟩) rfl 102 _ rfl w.heap.size 0 ?_ C ((kb.out.below b1.out (by have := sb.out; omega)).range) _ Tryz.underlying102 rfl 259 size50 HC.out.1 ?_); (· rfl))
  | ((with_reducible refine wpList_buildSlice_two (o := ⟨_, .buildSlice 100 2 #[(0, .tmp 15), (1, .tmp 16)], _, _, _, _⟩) rfl 100 102 (.tmp 15) (.tmp 16) rfl K C ?_ ?_ 259 HK.out.1 HC.out.1 (by omega) (by omega) (.agg Z.toArray) Tryz.underlying100 IS.out ?_); (· rfl); (· rfl); intro g3 w3 e3 k3 b3 s3; obtain ⟨L, hL1, hL2, hL3, hL4⟩ := BA.out g3; have HL1 := Lib.hid hL1; have HL2 := Lib.hid hL2; have HL3 := Lib.hid hL3; have HL4 := Lib.hid hL4; clear hL1 hL2 hL3 hL4)
  | ((with_reducible refine wpList_build_abs (o := ⟨_, .build 102 _, _, _, _, _⟩) rfl 102 _ rfl [(0, .int .i64 3), (3, .slice (some ⟨g3, 0, none⟩) 2 2)] ?_ L HL1.out ?_); (· first | (simp; done) | (simp; rfl) | (simp; exact ⟨rfl, rfl⟩)))
  | ((with_reducible refine wpList_store_abs (o := ⟨_, .store 102 (.tmp 4) (.tmp 18), _, _, _, _⟩) rfl 102 _ _ rfl rfl g1 L ?_ ?_ 102 Z (k1.out.below b3.out k1.out.lt) 259 size50 HL3.out ZL.out HL4.out ?_); (· rfl); (· rfl); intro w5 k5 b5 s5))
 have G : Hid (w.heap.size < g1 ∧ g1 < g3 ∧ g3 < w5.heap.size) := ⟨by have := e1.out; have := sb.out; omega, by have := e3.out; have := k1.out.lt; omega, by have := k3.out.lt; have := b5.out.size; omega⟩
 refine bodyPost_ret (results_cell_row rfl _ _ g1 102 L.toArray (0, 0) _ rfl k5.out Tryz.underlying102 rfl (by simpa [HL3.out] using size50)) rfl ?_
 have k35 : Blk w5 g3 102 (K ++ C) := k3.out.but b5.out (by have := G.out; omega)
 have BF : Below w.heap.size w w5 := bb.out.trans ((b1.out.mono (by have := sb.out; omega)).trans ((b3.out.mono (by have := sb.out; have := b1.out.size; omega)).trans (b5.out.below (by have := sb.out; have := b1.out.size; have := b3.out.size; omega) (fun n hn => by have := G.out; omega))))
 refine ⟨L, rfl, ?_, BF⟩
 show ReV _ _ _ (.alt [.cat [], r])
 rw [ReV]
 refine ⟨_, 2, HL2.out, by simp, fun _ => ⟨g3, rfl, .inr ⟨by have := G.out; omega, (G.out).2.2⟩, ?_⟩⟩
 rw [RsV, RsV, RsV]
 refine ⟨⟨K, fun j v hv => ?_, ?_⟩, ⟨C, fun j v hv => ?_, HR.out.keep (fun n h => .inl h) (fun b j hb => BF.cell (p := ⟨b, j, none⟩) (HT.out b hb))⟩, trivial⟩
 ·rw [show 0 * 259 + j = j by omega, k35.cell, List.getElem?_append_left (List.getElem?_eq_some_iff.1 hv).1]
  exact hv
 ·rw [ReV]
  exact ⟨none, 0, EK.out, by simp, fun h => absurd rfl h⟩
 ·rw [show (0 + 1) * 259 + j = 259 + j by omega, k35.cell, List.getElem?_append_right (by rw [HK.out.1]; omega), HK.out.1, Nat.add_sub_cancel_left]
  exact hv
theorem repeated_any (T : Nat → Prop) (C : List Value) (r : Re) (c : UInt8) (hc : rep c = true) (w : World) (hr : ReV w T C r) (hT : ∀ n, T n → n < w.heap.size) : Calls Tryz.prog 158 #[.agg C.toArray, .int .u8 (c.toNat : Int)] w (RepP' T r c w) := by
 unfold rep at hc
 simp only [Bool.or_eq_true, beq_iff_eq] at hc
 rcases hc with (rfl | rfl) | rfl
 ·exact repeated_star T C r w hr hT
 ·exact repeated_plus T C r w hr hT
 ·exact repeated_opt T C r w hr hT
end Go.Proofs.YtdeppcddknakjaaGreatDoor.Rx
namespace Go.Proofs.YtdeppcddknakjaaGreatDoor.Rx
open Go.RowKit
/-- What expression returns. -/
def ExpQ (p : ByteArray) (i : Nat) (w : World) (e : Ending) (w' : World) : Prop := ∃ (C : List Value) (k : Nat) (b : Bool), e = .returned (.tuple #[.agg C.toArray, .int .i64 (k : Int), .bool b]) ∧ Hid (C.length = 259 ∧ ∀ v ∈ C, v.oneCell' = true) ∧ Hid (b = true → ∃ n, ex [] [] (p.data.toList.drop i) = some (n, p.data.toList.drop k) ∧ ReV w' (Fresh w w') C n ∧ i ≤ k ∧ k ≤ p.size) ∧ Hid (b = false → ex [] [] (p.data.toList.drop i) = none) ∧ Hid (Below w.heap.size w w')
/-- What atom returns. -/
def AtmQ (p : ByteArray) (i : Nat) (w : World) (e : Ending) (w' : World) : Prop := ∃ (C : List Value) (k : Nat) (b : Bool), e = .returned (.tuple #[.agg C.toArray, .int .i64 (k : Int), .bool b]) ∧ Hid (C.length = 259 ∧ ∀ v ∈ C, v.oneCell' = true) ∧ Hid (b = true → ∃ n, ax (p.data.toList.drop i) = some (n, p.data.toList.drop k) ∧ ReV w' (Fresh w w') C n ∧ i < k ∧ k ≤ p.size) ∧ Hid (b = false → ax (p.data.toList.drop i) = none) ∧ Hid (Below w.heap.size w w')
set_option maxHeartbeats 4000000 in
set_option maxRecDepth 100000 in
theorem atom_plain_ref (p : ByteArray) (hp : p.size ≤ 1000) (i : Nat) (hi : i < p.size) (hs : special p[i] = false) (w : World) : Calls Tryz.prog 157 #[.string p, .int .i64 (i : Int)] w (AtmQ p i w) := by
 have ZL := Lib.hid Z50_len
 have ZZ := Lib.hid zero50'
 have BZ := Lib.hid built_zero50
 have OZ : Hid (∀ v ∈ Z50, v.oneCell' = true) := (nod_ok _ _ _).2
 generalize Z50 = Z at ZL ZZ BZ OZ
 have hi0 : (0 : Int) ≤ (i : Int) := Int.natCast_nonneg _
 have hi1 : (i : Int) < (p.size : Int) := by omega
 have HD := Lib.hid (drop_cons_ p hi)
 have KS := Lib.hid (fun V => special_any p[i] V)
 have KN := Lib.hid (fun V => single_any p[i] V)
 obtain ⟨L, hL⟩ : ∃ L, L = nodL 1 (fun x => x == p[i]) true (.slice none 0 0) := ⟨_, rfl⟩
 rw [← hL] at KN
 have HL : Hid (L.length = 259 ∧ ∀ v ∈ L, v.oneCell' = true) := by rw [hL]; exact nod_ok _ _ _
 have EL := Lib.hid hL
 have HX : Hid (ax (p.data.toList.drop i) = some (.byte p[i], p.data.toList.drop (i + 1))) := by show _ = _; rw [HD.out, ax_byte _ hs]
 rw [hs] at KS
 clear hL hs
 go_enter Tryz.func157, Tryz.ntmps157
 go_wp2_with (first
  | ((with_reducible refine wpList_alloc_abs (o := ⟨some 4, .alloc 102, _, _, _, _⟩) rfl 102 rfl Z ZZ.out ?_); intro g1 w1 e1 k1 b1 s1)
  | (go_at_call 176; (with_reducible refine (KS.out _).mono ?_); rintro e wz ⟨rfl, rfl⟩)
  | (go_at_call 177; (with_reducible refine (KN.out _).mono ?_); rintro e w2 ⟨rfl, b2⟩)
  | ((with_reducible refine wpList_store_abs (o := ⟨_, .store 102 (.tmp 4) (.tmp 22), _, _, _, _⟩) rfl 102 _ _ rfl rfl g1 L ?_ ?_ 102 Z (k1.out.below b2.out k1.out.lt) 259 size50 HL.out.1 ZL.out HL.out.2 ?_); (· rfl); (· rfl); intro w5 k5 b5 s5))
 refine bodyPost_ret (res_node3 rfl rfl rfl rfl k5.out HL.out.1) rfl ?_
 have h1 := e1.out
 have h2 := b1.out.size
 have h3 := b2.out.size
 refine ⟨L, i + 1, true, rfl, HL.out, fun _ => ⟨_, HX.out, ?_, by omega, by omega⟩, fun h => (by cases h), b1.out.trans ((b2.out.mono h2).trans (b5.out.below (by omega) (fun n hn => by omega)))⟩
 rw [ReV]
 exact EL.out
set_option maxHeartbeats 4000000 in
set_option maxRecDepth 100000 in
theorem atom_dot_ref (p : ByteArray) (hp : p.size ≤ 1000) (i : Nat) (hi : i < p.size) (hc : p[i] = 46) (w : World) : Calls Tryz.prog 157 #[.string p, .int .i64 (i : Int)] w (AtmQ p i w) := by
 have ZL := Lib.hid Z50_len
 have ZZ := Lib.hid zero50'
 have BZ := Lib.hid built_zero50
 have OZ : Hid (∀ v ∈ Z50, v.oneCell' = true) := (nod_ok _ _ _).2
 generalize Z50 = Z at ZL ZZ BZ OZ
 have hi0 : (0 : Int) ≤ (i : Int) := Int.natCast_nonneg _
 have hi1 : (i : Int) < (p.size : Int) := by omega
 have HD := Lib.hid (drop_cons_ p hi)
 have KS := Lib.hid (fun V => special_any p[i] V)
 rw [show special p[i] = true by rw [hc]; rfl] at KS
 have HX : Hid (ax (p.data.toList.drop i) = some (.cls (fun _ => true), p.data.toList.drop (i + 1))) := by show _ = _; rw [HD.out, hc, ax_dot]
 have e46 : (((p[i].toNat : Nat) : Int) == 46) = true := beq_u8 (k := 46) (by decide) hc
 obtain ⟨L1, hL1⟩ : ∃ L1, L1 = nodL 1 none_ false (.slice none 0 0) := ⟨_, rfl⟩
 have BL : Hid (Tryz.prog.built 102 [(0, .int .i64 1)] = some L1.toArray) := by rw [hL1]; exact built_kind _
 have H1 : Hid (L1.length = 259 ∧ ∀ v ∈ L1, v.oneCell' = true) := by rw [hL1]; exact nod_ok _ _ _
 have E1 := Lib.hid hL1
 have E46 := Lib.hid e46
 clear hL1 hc e46
 go_enter Tryz.func157, Tryz.ntmps157
 go_upto_region 4 with (first
  | ((with_reducible refine wpList_alloc_abs (o := ⟨some 4, .alloc 102, _, _, _, _⟩) rfl 102 rfl Z ZZ.out ?_); intro g1 w1 e1 k1 b1 s1)
  | (go_at_call 176; (with_reducible refine (KS.out _).mono ?_); rintro e wz ⟨rfl, rfl⟩))
 have e46 := E46.out
 go_wp2_with (first
  | ((with_reducible refine wpList_build_abs (o := ⟨_, .build 102 _, _, _, _, _⟩) rfl 102 _ rfl [(0, .int .i64 1)] ?_ L1 BL.out ?_); (· first | (simp; done) | (simp; rfl) | (simp; exact ⟨rfl, rfl⟩)))
  | ((with_reducible refine wpList_alloc_abs (o := ⟨some 8, .alloc 102, _, _, _, _⟩) rfl 102 rfl Z ZZ.out ?_); intro g2 w2 e2 k2 b2 s2)
  | ((with_reducible refine wpList_store_abs (o := ⟨_, .store 102 (.tmp 8) (.tmp 27), _, _, _, _⟩) rfl 102 _ _ rfl rfl g2 L1 ?_ ?_ 102 Z (k2.out) 259 size50 H1.out.1 ZL.out H1.out.2 ?_); (· rfl); (· rfl); intro w3 k3 b3 s3))
 have G1 : Hid (w.heap.size ≤ g1 ∧ g1 < g2 ∧ g2 < w3.heap.size) := ⟨by have := e1.out; omega, by have := e2.out; have := k1.out.lt; omega, k3.out.lt⟩
 have B3 : Hid (Below w.heap.size w w3) := b1.out.trans ((b2.out.mono b1.out.size).trans (b3.out.below (by have := b1.out.size; have := b2.out.size; omega) (fun n hn => by have := G1.out; omega)))
 have K1 : Hid (Blk w3 g1 102 Z) := (k1.out.below b2.out k1.out.lt).but b3.out (by have := G1.out; omega)
 have K3 : Hid (Blk w3 g2 102 (nodL 1 (upTo 0 (fun _ => true)) false (.slice none 0 0))) := by rw [nodL_ext (upTo_zero _), ← E1.out]; exact k3.out
 clear e1 k1 b1 s1 e2 k2 b2 s2 k3 b3 s3 E1 H1 BL e46 E46
 go_loopw [9] (fun vi wr => ∃ k : Nat, k ≤ 256 ∧ vi = .int .i64 k ∧ Hid (Blk wr g2 102 (nodL 1 (upTo k (fun _ => true)) false (.slice none 0 0))) ∧ Hid (Blk wr g1 102 Z) ∧ Hid (Below w.heap.size w wr)) (fun vi _ => 256 - (intOf vi).toNat)
 case atStart => exact ⟨0, by omega, rfl, K3, K1, B3⟩
 case round =>
  clear K1 K3 B3
  obtain ⟨k, hk, rfl, K3, K1, B3⟩ := hrel
  have hk0 : (0 : Int) ≤ (k : Int) := Int.natCast_nonneg _
  by_cases hlt : k < 256
  ·have hlt' : (k : Int) < 256 := by omega
   obtain ⟨L, hL⟩ : ∃ L, L = nodL 1 (upTo k (fun _ => true)) false (.slice none 0 0) := ⟨_, rfl⟩
   have KL : Hid (Blk wr g2 102 L) := by rw [hL]; exact K3.out
   have HL : Hid (L.length = 259) := by rw [hL]; exact nodL_len _ _ _ _
   have CK : Hid (∀ V, Blk V g2 102 (L.set (1 + k) (.bool true)) → Blk V g2 102 (nodL 1 (upTo (k + 1) (fun _ => true)) false (.slice none 0 0))) := fun V h => by rw [hL, up_set 1 _ hlt rfl] at h; exact h
   clear hL K3
   go_wp2_with (first
    | ((with_reducible refine wpList_store_cell (o := ⟨_, .store 4 (.tmp 34) (.const (.bool true)), _, _, _, _⟩) rfl 4 _ _ rfl rfl g2 (1 + k) (.bool true) ?_ ?_ rfl 102 L (KL.out) (by rw [HL.out]; omega) size4 ?_); (· rfl); (· rfl); intro w5 k5 b5 s5))
   go_roundw
   case rel => exact ⟨k + 1, by omega, by go_num, CK.out _ k5.out, K1.out.but b5.out (by have := G1.out; omega), B3.out.trans (b5.out.below (by have := B3.out.size; omega) (fun n hn => by have := G1.out; omega))⟩
   case measure => simp [intOf]; omega
  ·obtain rfl : k = 256 := by omega
   obtain ⟨L, hL⟩ : ∃ L, L = nodL 1 (fun _ => true) false (.slice none 0 0) := ⟨_, rfl⟩
   have KL : Hid (Blk wr g2 102 L) := by rw [hL, ← nodL_ext (upTo_all (fun _ => true))]; exact K3.out
   have HL : Hid (L.length = 259 ∧ ∀ v ∈ L, v.oneCell' = true) := by rw [hL]; exact nod_ok _ _ _
   have HR := Lib.hid hL
   clear hL K3
   go_wp2_with (first
    | ((with_reducible refine wpList_load_abs (o := ⟨_, .load 102 (.tmp 8), _, _, _, _⟩) rfl 102 _ rfl g2 0 ?_ L (KL.out.range) _ Tryz.underlying102 rfl 259 size50 HL.out.1 ?_); (· rfl))
    | ((with_reducible refine wpList_store_abs (o := ⟨_, .store 102 (.tmp 4) (.tmp 35), _, _, _, _⟩) rfl 102 _ _ rfl rfl g1 L ?_ ?_ 102 Z (K1.out) 259 size50 HL.out.1 ZL.out HL.out.2 ?_); (· rfl); (· rfl); intro w5 k5 b5 s5))
   refine bodyPost_ret (res_node3 rfl rfl rfl rfl k5.out HL.out.1) rfl ?_
   refine ⟨L, i + 1, true, rfl, HL.out, fun _ => ⟨_, HX.out, ?_, by omega, by omega⟩, fun h => (by cases h), B3.out.trans (b5.out.below (by have := B3.out.size; omega) (fun n hn => by have := G1.out; omega))⟩
   rw [ReV]
   exact HR.out
set_option maxHeartbeats 4000000 in
set_option maxRecDepth 100000 in
theorem atom_bad_ref (p : ByteArray) (hp : p.size ≤ 1000) (i : Nat) (hi : i < p.size) (hs : special p[i] = true) (h1 : p[i] ≠ 46) (h2 : p[i] ≠ 92) (h3 : p[i] ≠ 91) (h4 : p[i] ≠ 40) (w : World) : Calls Tryz.prog 157 #[.string p, .int .i64 (i : Int)] w (AtmQ p i w) := by
 have ZL := Lib.hid Z50_len
 have ZZ := Lib.hid zero50'
 have BZ := Lib.hid built_zero50
 have OZ : Hid (∀ v ∈ Z50, v.oneCell' = true) := (nod_ok _ _ _).2
 generalize Z50 = Z at ZL ZZ BZ OZ
 have hi0 : (0 : Int) ≤ (i : Int) := Int.natCast_nonneg _
 have hi1 : (i : Int) < (p.size : Int) := by omega
 have HD := Lib.hid (drop_cons_ p hi)
 have KS := Lib.hid (fun V => special_any p[i] V)
 rw [hs] at KS
 have HX : Hid (ax (p.data.toList.drop i) = none) := by show _ = _; rw [HD.out, ax_bad _ hs h1 h2 h3 h4]
 have F1 : Hid ((((p[i].toNat : Nat) : Int) == 46) = false) := bne_u8 (k := 46) (by decide) h1
 have F2 : Hid ((((p[i].toNat : Nat) : Int) == 92) = false) := bne_u8 (k := 92) (by decide) h2
 have F3 : Hid ((((p[i].toNat : Nat) : Int) == 91) = false) := bne_u8 (k := 91) (by decide) h3
 have F4 : Hid ((((p[i].toNat : Nat) : Int) != 40) = true) := neq_u8 (k := 40) (by decide) h4
 clear h1 h2 h3 h4 hs
 go_enter Tryz.func157, Tryz.ntmps157
 go_upto_region 4 with (first
  | ((with_reducible refine wpList_alloc_abs (o := ⟨some 4, .alloc 102, _, _, _, _⟩) rfl 102 rfl Z ZZ.out ?_); intro g1 w1 e1 k1 b1 s1)
  | (go_at_call 176; (with_reducible refine (KS.out _).mono ?_); rintro e wz ⟨rfl, rfl⟩))
 have f1 := F1.out
 have f2 := F2.out
 have f3 := F3.out
 have f4 := F4.out
 go_wp2_with (first
  | ((with_reducible refine wpList_build_abs (o := ⟨_, .build 102 _, _, _, _, _⟩) rfl 102 _ rfl [] ?_ Z BZ.out ?_); (· first | (simp; done) | (simp; rfl) | (simp; exact ⟨rfl, rfl⟩)))
  | ((with_reducible refine wpList_store_abs (o := ⟨_, .store 102 (.tmp 4) (.tmp 93), _, _, _, _⟩) rfl 102 _ _ rfl rfl g1 Z ?_ ?_ 102 Z (k1.out) 259 size50 ZL.out ZL.out OZ.out ?_); (· rfl); (· rfl); intro w5 k5 b5 s5))
 refine bodyPost_ret (res_node3 rfl rfl rfl rfl k5.out ZL.out) rfl ?_
 have h1 := e1.out
 exact ⟨Z, i, false, rfl, ⟨ZL.out, OZ.out⟩, fun h => (by cases h), fun _ => HX.out, b1.out.trans (b5.out.below (by have := b1.out.size; omega) (fun n hn => by omega))⟩
set_option maxHeartbeats 4000000 in
set_option maxRecDepth 100000 in
theorem atom_end_esc (p : ByteArray) (hp : p.size ≤ 1000) (i : Nat) (hi : i < p.size) (hc : p[i] = 92) (hn : ¬ i + 1 < p.size) (w : World) : Calls Tryz.prog 157 #[.string p, .int .i64 (i : Int)] w (AtmQ p i w) := by
 have ZL := Lib.hid Z50_len
 have ZZ := Lib.hid zero50'
 have BZ := Lib.hid built_zero50
 have OZ : Hid (∀ v ∈ Z50, v.oneCell' = true) := (nod_ok _ _ _).2
 generalize Z50 = Z at ZL ZZ BZ OZ
 have hi0 : (0 : Int) ≤ (i : Int) := Int.natCast_nonneg _
 have hi1 : (i : Int) < (p.size : Int) := by omega
 have HD := Lib.hid (drop_cons_ p hi)
 have KS := Lib.hid (fun V => special_any p[i] V)
 rw [show special p[i] = true by rw [hc]; rfl] at KS
 have HX : Hid (ax (p.data.toList.drop i) = none) := by show _ = _; rw [HD.out, hc, ax_esc, drop_end (by omega)]; rfl
 have hn' : ¬ ((i : Int) + 1 < (p.size : Int)) := by omega
 have F46 : Hid ((((p[i].toNat : Nat) : Int) == 46) = false) := bne_u8 (k := 46) (by decide) (by rw [hc]; decide)
 have F92 : Hid ((((p[i].toNat : Nat) : Int) == 92) = true) := beq_u8 (k := 92) (by decide) hc
 have F91 : Hid ((((p[i].toNat : Nat) : Int) == 91) = false) := bne_u8 (k := 91) (by decide) (by rw [hc]; decide)
 have F40 : Hid ((((p[i].toNat : Nat) : Int) != 40) = true) := neq_u8 (k := 40) (by decide) (by rw [hc]; decide)
 clear hc hn
 go_enter Tryz.func157, Tryz.ntmps157
 go_upto_region 4 with (first
  | ((with_reducible refine wpList_alloc_abs (o := ⟨some 4, .alloc 102, _, _, _, _⟩) rfl 102 rfl Z ZZ.out ?_); intro g1 w1 e1 k1 b1 s1)
  | (go_at_call 176; (with_reducible refine (KS.out _).mono ?_); rintro e wz ⟨rfl, rfl⟩))
 have f46 := F46.out
 have f92 := F92.out
 have f91 := F91.out
 have f40 := F40.out
 go_wp2_with (first
  | ((with_reducible refine wpList_build_abs (o := ⟨_, .build 102 _, _, _, _, _⟩) rfl 102 _ rfl [] ?_ Z BZ.out ?_); (· first | (simp; done) | (simp; rfl) | (simp; exact ⟨rfl, rfl⟩)))
  | ((with_reducible refine wpList_store_abs (o := ⟨_, .store 102 (.tmp 4) (.tmp 93), _, _, _, _⟩) rfl 102 _ _ rfl rfl g1 Z ?_ ?_ 102 Z (k1.out) 259 size50 ZL.out ZL.out OZ.out ?_); (· rfl); (· rfl); intro w5 k5 b5 s5))
 refine bodyPost_ret (res_node3 rfl rfl rfl rfl k5.out ZL.out) rfl ?_
 have h1 := e1.out
 exact ⟨Z, i, false, rfl, ⟨ZL.out, OZ.out⟩, fun h => (by cases h), fun _ => HX.out, b1.out.trans (b5.out.below (by have := b1.out.size; omega) (fun n hn => by omega))⟩
set_option maxHeartbeats 4000000 in
set_option maxRecDepth 100000 in
theorem atom_brk_inv (p : ByteArray) (hp : p.size ≤ 1000) (i : Nat) (hi : i < p.size) (hc : p[i] = 91) (h1 : i + 1 < p.size) (h2 : p[i + 1] = 94) (w : World) : Calls Tryz.prog 157 #[.string p, .int .i64 (i : Int)] w (AtmQ p i w) := by
 have ZL := Lib.hid Z50_len
 have ZZ := Lib.hid zero50'
 have BZ := Lib.hid built_zero50
 have OZ : Hid (∀ v ∈ Z50, v.oneCell' = true) := (nod_ok _ _ _).2
 generalize Z50 = Z at ZL ZZ BZ OZ
 have hi0 : (0 : Int) ≤ (i : Int) := Int.natCast_nonneg _
 have hi1 : (i : Int) < (p.size : Int) := by omega
 have HD := Lib.hid (drop_cons_ p hi)
 have KS := Lib.hid (fun V => special_any p[i] V)
 rw [show special p[i] = true by rw [hc]; rfl] at KS
 have F46 : Hid ((((p[i].toNat : Nat) : Int) == 46) = false) := bne_u8 (k := 46) (by decide) (by rw [hc]; decide)
 have F92 : Hid ((((p[i].toNat : Nat) : Int) == 92) = false) := bne_u8 (k := 92) (by decide) (by rw [hc]; decide)
 have F91 : Hid ((((p[i].toNat : Nat) : Int) == 91) = true) := beq_u8 (k := 91) (by decide) hc
 have F40 : Hid ((((p[i].toNat : Nat) : Int) != 40) = true) := neq_u8 (k := 40) (by decide) (by rw [hc]; decide)
 have h1' : (i : Int) + 1 < (p.size : Int) := by omega
 have F94 : Hid ((((p[i + 1].toNat : Nat) : Int) == 94) = true) := beq_u8 (k := 94) (by decide) h2
 have KB : Hid (∀ V, Calls Tryz.prog 179 #[.string p, .int .i64 ((i : Int) + 2), .bool true] V (BrkP p (i + 2) true V)) := fun V => brackets_any p hp (i + 2) (by omega) true V
 have HX0 : ax (p.data.toList.drop i) = (bx none_ true (p.data.toList.drop (i + 2))).map (fun q => (.cls (fun x => !q.1 x), q.2)) := by
  rw [HD.out, hc, ax_cls, drop_cons_ p h1, h2, cls_eq, if_pos rfl]
 have HX : Hid (∀ f k, bx none_ true (p.data.toList.drop (i + 2)) = some (f, p.data.toList.drop k) → ax (p.data.toList.drop i) = some (.cls (fun x => f x != true), p.data.toList.drop k)) := fun f k h => by
  rw [HX0, h]
  have e : (fun x => f x != true) = fun x => !f x := by funext x; cases f x <;> rfl
  rw [e]
  rfl
 have HN : Hid (bx none_ true (p.data.toList.drop (i + 2)) = none → ax (p.data.toList.drop i) = none) := fun h => by rw [HX0, h]; rfl
 clear h2 HX0
 clear hc
 go_enter Tryz.func157, Tryz.ntmps157
 go_upto_region 4 with (first
  | ((with_reducible refine wpList_alloc_abs (o := ⟨some 4, .alloc 102, _, _, _, _⟩) rfl 102 rfl Z ZZ.out ?_); intro g1 w1 e1 k1 b1 s1)
  | (go_at_call 176; (with_reducible refine (KS.out _).mono ?_); rintro e wz ⟨rfl, rfl⟩))
 have f46 := F46.out
 have f92 := F92.out
 have f91 := F91.out
 have f40 := F40.out
 have f94 := F94.out
 go_wp2_with (first
  | (go_at_call 179; (with_reducible refine (KB.out _).mono ?_); rintro e w2 ⟨C, k, b, rfl, hC, hT, hF, b2⟩)
  | ((with_reducible refine wpList_store_abs (o := ⟨_, .store 102 (.tmp 4) (.tmp 79), _, _, _, _⟩) rfl 102 _ _ rfl rfl g1 C ?_ ?_ 102 Z (k1.out.below b2.out k1.out.lt) 259 size50 hC.out.1 ZL.out hC.out.2 ?_); (· rfl); (· rfl); intro w5 k5 b5 s5))
 refine bodyPost_ret (res_node3 rfl rfl rfl rfl k5.out hC.out.1) rfl ?_
 have h1 := e1.out
 have h2 := b1.out.size
 have h3 := b2.out.size
 refine ⟨C, k, b, rfl, hC.out, fun hb => ?_, fun hb => ?_, b1.out.trans ((b2.out.mono h2).trans (b5.out.below (by omega) (fun n hn => by omega)))⟩
 ·obtain ⟨f, h4, h5, h6, h7⟩ := hT.out hb
  refine ⟨.cls (fun x => f x != true), HX.out f k h4, ?_, by omega, h7⟩
  rw [ReV]
  exact h5
 ·exact HN.out (hF.out hb)
set_option maxHeartbeats 4000000 in
set_option maxRecDepth 100000 in
theorem atom_brk (p : ByteArray) (hp : p.size ≤ 1000) (i : Nat) (hi : i < p.size) (hc : p[i] = 91) (h1 : i + 1 < p.size) (h2 : p[i + 1] ≠ 94) (w : World) : Calls Tryz.prog 157 #[.string p, .int .i64 (i : Int)] w (AtmQ p i w) := by
 have ZL := Lib.hid Z50_len
 have ZZ := Lib.hid zero50'
 have BZ := Lib.hid built_zero50
 have OZ : Hid (∀ v ∈ Z50, v.oneCell' = true) := (nod_ok _ _ _).2
 generalize Z50 = Z at ZL ZZ BZ OZ
 have hi0 : (0 : Int) ≤ (i : Int) := Int.natCast_nonneg _
 have hi1 : (i : Int) < (p.size : Int) := by omega
 have HD := Lib.hid (drop_cons_ p hi)
 have KS := Lib.hid (fun V => special_any p[i] V)
 rw [show special p[i] = true by rw [hc]; rfl] at KS
 have F46 : Hid ((((p[i].toNat : Nat) : Int) == 46) = false) := bne_u8 (k := 46) (by decide) (by rw [hc]; decide)
 have F92 : Hid ((((p[i].toNat : Nat) : Int) == 92) = false) := bne_u8 (k := 92) (by decide) (by rw [hc]; decide)
 have F91 : Hid ((((p[i].toNat : Nat) : Int) == 91) = true) := beq_u8 (k := 91) (by decide) hc
 have F40 : Hid ((((p[i].toNat : Nat) : Int) != 40) = true) := neq_u8 (k := 40) (by decide) (by rw [hc]; decide)
 have h1' : (i : Int) + 1 < (p.size : Int) := by omega
 have F94 : Hid ((((p[i + 1].toNat : Nat) : Int) == 94) = false) := bne_u8 (k := 94) (by decide) h2
 have HX0 : ax (p.data.toList.drop i) = (bx none_ true (p.data.toList.drop (i + 1))).map (fun q => (.cls q.1, q.2)) := by
  rw [HD.out, hc, ax_cls, drop_cons_ p h1, cls_eq, if_neg h2]
 have KB : Hid (∀ V, Calls Tryz.prog 179 #[.string p, .int .i64 ((i : Int) + 1), .bool false] V (BrkP p (i + 1) false V)) := fun V => brackets_any p hp (i + 1) (by omega) false V
 have HX : Hid (∀ f k, bx none_ true (p.data.toList.drop (i + 1)) = some (f, p.data.toList.drop k) → ax (p.data.toList.drop i) = some (.cls (fun x => f x != false), p.data.toList.drop k)) := fun f k h => by
  rw [HX0, h]
  have e : (fun x => f x != false) = fun x => f x := by funext x; cases f x <;> rfl
  rw [e]
  rfl
 have HN : Hid (bx none_ true (p.data.toList.drop (i + 1)) = none → ax (p.data.toList.drop i) = none) := fun h => by rw [HX0, h]; rfl
 clear HX0
 clear h2
 clear hc
 go_enter Tryz.func157, Tryz.ntmps157
 go_upto_region 4 with (first
  | ((with_reducible refine wpList_alloc_abs (o := ⟨some 4, .alloc 102, _, _, _, _⟩) rfl 102 rfl Z ZZ.out ?_); intro g1 w1 e1 k1 b1 s1)
  | (go_at_call 176; (with_reducible refine (KS.out _).mono ?_); rintro e wz ⟨rfl, rfl⟩))
 have f46 := F46.out
 have f92 := F92.out
 have f91 := F91.out
 have f40 := F40.out
 have f94 := F94.out
 go_wp2_with (first
  | (go_at_call 179; (with_reducible refine (KB.out _).mono ?_); rintro e w2 ⟨C, k, b, rfl, hC, hT, hF, b2⟩)
  | ((with_reducible refine wpList_store_abs (o := ⟨_, .store 102 (.tmp 4) (.tmp 88), _, _, _, _⟩) rfl 102 _ _ rfl rfl g1 C ?_ ?_ 102 Z (k1.out.below b2.out k1.out.lt) 259 size50 hC.out.1 ZL.out hC.out.2 ?_); (· rfl); (· rfl); intro w5 k5 b5 s5))
 refine bodyPost_ret (res_node3 rfl rfl rfl rfl k5.out hC.out.1) rfl ?_
 have h1 := e1.out
 have h2 := b1.out.size
 have h3 := b2.out.size
 refine ⟨C, k, b, rfl, hC.out, fun hb => ?_, fun hb => ?_, b1.out.trans ((b2.out.mono h2).trans (b5.out.below (by omega) (fun n hn => by omega)))⟩
 ·obtain ⟨f, h4, h5, h6, h7⟩ := hT.out hb
  refine ⟨.cls (fun x => f x != false), HX.out f k h4, ?_, by omega, h7⟩
  rw [ReV]
  exact h5
 ·exact HN.out (hF.out hb)
set_option maxHeartbeats 4000000 in
set_option maxRecDepth 100000 in
theorem atom_brk_end (p : ByteArray) (hp : p.size ≤ 1000) (i : Nat) (hi : i < p.size) (hc : p[i] = 91) (h1 : ¬ i + 1 < p.size) (w : World) : Calls Tryz.prog 157 #[.string p, .int .i64 (i : Int)] w (AtmQ p i w) := by
 have ZL := Lib.hid Z50_len
 have ZZ := Lib.hid zero50'
 have BZ := Lib.hid built_zero50
 have OZ : Hid (∀ v ∈ Z50, v.oneCell' = true) := (nod_ok _ _ _).2
 generalize Z50 = Z at ZL ZZ BZ OZ
 have hi0 : (0 : Int) ≤ (i : Int) := Int.natCast_nonneg _
 have hi1 : (i : Int) < (p.size : Int) := by omega
 have HD := Lib.hid (drop_cons_ p hi)
 have KS := Lib.hid (fun V => special_any p[i] V)
 rw [show special p[i] = true by rw [hc]; rfl] at KS
 have F46 : Hid ((((p[i].toNat : Nat) : Int) == 46) = false) := bne_u8 (k := 46) (by decide) (by rw [hc]; decide)
 have F92 : Hid ((((p[i].toNat : Nat) : Int) == 92) = false) := bne_u8 (k := 92) (by decide) (by rw [hc]; decide)
 have F91 : Hid ((((p[i].toNat : Nat) : Int) == 91) = true) := beq_u8 (k := 91) (by decide) hc
 have F40 : Hid ((((p[i].toNat : Nat) : Int) != 40) = true) := neq_u8 (k := 40) (by decide) (by rw [hc]; decide)
 have h1' : ¬ ((i : Int) + 1 < (p.size : Int)) := by omega
 have HX0 : ax (p.data.toList.drop i) = (bx none_ true (p.data.toList.drop (i + 1))).map (fun q => (.cls q.1, q.2)) := by
  rw [HD.out, hc, ax_cls, drop_end (by omega)]
  rfl
 have KB : Hid (∀ V, Calls Tryz.prog 179 #[.string p, .int .i64 ((i : Int) + 1), .bool false] V (BrkP p (i + 1) false V)) := fun V => brackets_any p hp (i + 1) (by omega) false V
 have HX : Hid (∀ f k, bx none_ true (p.data.toList.drop (i + 1)) = some (f, p.data.toList.drop k) → ax (p.data.toList.drop i) = some (.cls (fun x => f x != false), p.data.toList.drop k)) := fun f k h => by
  rw [HX0, h]
  have e : (fun x => f x != false) = fun x => f x := by funext x; cases f x <;> rfl
  rw [e]
  rfl
 have HN : Hid (bx none_ true (p.data.toList.drop (i + 1)) = none → ax (p.data.toList.drop i) = none) := fun h => by rw [HX0, h]; rfl
 clear HX0
 clear hc
 go_enter Tryz.func157, Tryz.ntmps157
 go_upto_region 4 with (first
  | ((with_reducible refine wpList_alloc_abs (o := ⟨some 4, .alloc 102, _, _, _, _⟩) rfl 102 rfl Z ZZ.out ?_); intro g1 w1 e1 k1 b1 s1)
  | (go_at_call 176; (with_reducible refine (KS.out _).mono ?_); rintro e wz ⟨rfl, rfl⟩))
 have f46 := F46.out
 have f92 := F92.out
 have f91 := F91.out
 have f40 := F40.out
 go_wp2_with (first
  | (go_at_call 179; (with_reducible refine (KB.out _).mono ?_); rintro e w2 ⟨C, k, b, rfl, hC, hT, hF, b2⟩)
  | ((with_reducible refine wpList_store_abs (o := ⟨_, .store 102 (.tmp 4) (.tmp 88), _, _, _, _⟩) rfl 102 _ _ rfl rfl g1 C ?_ ?_ 102 Z (k1.out.below b2.out k1.out.lt) 259 size50 hC.out.1 ZL.out hC.out.2 ?_); (· rfl); (· rfl); intro w5 k5 b5 s5))
 refine bodyPost_ret (res_node3 rfl rfl rfl rfl k5.out hC.out.1) rfl ?_
 have h1 := e1.out
 have h2 := b1.out.size
 have h3 := b2.out.size
 refine ⟨C, k, b, rfl, hC.out, fun hb => ?_, fun hb => ?_, b1.out.trans ((b2.out.mono h2).trans (b5.out.below (by omega) (fun n hn => by omega)))⟩
 ·obtain ⟨f, h4, h5, h6, h7⟩ := hT.out hb
  refine ⟨.cls (fun x => f x != false), HX.out f k h4, ?_, by omega, h7⟩
  rw [ReV]
  exact h5
 ·exact HN.out (hF.out hb)
end Go.Proofs.YtdeppcddknakjaaGreatDoor.Rx
namespace Go.Proofs.YtdeppcddknakjaaGreatDoor.Rx
open Go.RowKit
set_option maxHeartbeats 4000000 in
set_option maxRecDepth 100000 in
theorem atom_esc_ref (p : ByteArray) (hp : p.size ≤ 1000) (i : Nat) (hi : i < p.size) (hc : p[i] = 92) (h1 : i + 1 < p.size) (w : World) : Calls Tryz.prog 157 #[.string p, .int .i64 (i : Int)] w (AtmQ p i w) := by
 have ZL := Lib.hid Z50_len
 have ZZ := Lib.hid zero50'
 have BZ := Lib.hid built_zero50
 have OZ : Hid (∀ v ∈ Z50, v.oneCell' = true) := (nod_ok _ _ _).2
 generalize Z50 = Z at ZL ZZ BZ OZ
 have hi0 : (0 : Int) ≤ (i : Int) := Int.natCast_nonneg _
 have hi1 : (i : Int) < (p.size : Int) := by omega
 have HD := Lib.hid (drop_cons_ p hi)
 have KS := Lib.hid (fun V => special_any p[i] V)
 rw [show special p[i] = true by rw [hc]; rfl] at KS
 have F46 : Hid ((((p[i].toNat : Nat) : Int) == 46) = false) := bne_u8 (k := 46) (by decide) (by rw [hc]; decide)
 have F92 : Hid ((((p[i].toNat : Nat) : Int) == 92) = true) := beq_u8 (k := 92) (by decide) hc
 have F91 : Hid ((((p[i].toNat : Nat) : Int) == 91) = false) := bne_u8 (k := 91) (by decide) (by rw [hc]; decide)
 have F40 : Hid ((((p[i].toNat : Nat) : Int) != 40) = true) := neq_u8 (k := 40) (by decide) (by rw [hc]; decide)
 have h1' : (i : Int) + 1 < (p.size : Int) := by omega
 have KE := Lib.hid (fun V => escape_any_ref p[i + 1] V)
 have HX : Hid (ax (p.data.toList.drop i) = (escRe p[i + 1]).map (fun n => (n, p.data.toList.drop (i + 2)))) := by
  show _ = _
  rw [HD.out, hc, ax_esc, drop_cons_ p h1]
  rfl
 clear hc
 go_enter Tryz.func157, Tryz.ntmps157
 go_upto_region 4 with (first
  | ((with_reducible refine wpList_alloc_abs (o := ⟨some 4, .alloc 102, _, _, _, _⟩) rfl 102 rfl Z ZZ.out ?_); intro g1 w1 e1 k1 b1 s1)
  | (go_at_call 176; (with_reducible refine (KS.out _).mono ?_); rintro e wz ⟨rfl, rfl⟩))
 have f46 := F46.out
 have f92 := F92.out
 have f91 := F91.out
 have f40 := F40.out
 go_wp2_with (first
  | (go_at_call 178; (with_reducible refine (KE.out _).mono ?_); rintro e w2 ⟨C, b, rfl, hC, hT, hF, b2⟩)
  | ((with_reducible refine wpList_alloc_abs (o := ⟨some 10, .alloc 102, _, _, _, _⟩) rfl 102 rfl Z ZZ.out ?_); intro g3 w3 e3 k3 b3 s3)
  | ((with_reducible refine wpList_store_abs (o := ⟨_, .store 102 (.tmp 10) (.tmp 53), _, _, _, _⟩) rfl 102 _ _ rfl rfl g3 C ?_ ?_ 102 Z (k3.out) 259 size50 hC.out.1 ZL.out hC.out.2 ?_); (· rfl); (· rfl); intro w4 k4 b4 s4)
  | ((with_reducible refine wpList_load_abs (o := ⟨_, .load 102 (.tmp 10), _, _, _, _⟩) rfl 102 _ rfl g3 0 ?_ C (k4.out.range) _ Tryz.underlying102 rfl 259 size50 hC.out.1 ?_); (· rfl))
  | ((with_reducible refine wpList_store_abs (o := ⟨_, .store 102 (.tmp 4) (.tmp 55), _, _, _, _⟩) rfl 102 _ _ rfl rfl g1 C ?_ ?_ 102 Z (((k1.out.below b2.out k1.out.lt).below b3.out (by have := k1.out.lt; have := b2.out.size; omega)).but b4.out (by have := e3.out; have := k1.out.lt; have := b2.out.size; omega)) 259 size50 hC.out.1 ZL.out hC.out.2 ?_); (· rfl); (· rfl); intro w5 k5 b5 s5))
 refine bodyPost_ret (res_node3 rfl rfl rfl rfl k5.out hC.out.1) rfl ?_
 have h2 := e1.out
 have h3 := b1.out.size
 have h4 := b2.out.size
 have h5 := b3.out.size
 have h6 := e3.out
 have h7 := b4.out.size
 have h8 := k1.out.lt
 have B25 : But (fun n => n = g1 ∨ n = g3) w2 w5 := ((But.of_below (S := fun n => n = g1 ∨ n = g3) b3.out).trans b4.out (fun n _ h => .inr h)).trans b5.out (fun n _ h => .inl h)
 refine ⟨C, i + 2, b, rfl, hC.out, fun hb => ?_, fun hb => ?_, b1.out.trans ((b2.out.mono h3).trans (B25.below (by omega) (fun n hn => by omega)))⟩
 ·obtain ⟨n, h9, h10⟩ := hT.out hb
  refine ⟨n, by rw [HX.out, h9]; rfl, h10.keep (fun m hm => ⟨by have := hm.1; omega, by have := hm.2; have := B25.size; omega⟩) (fun g j hg => B25.cell (p := ⟨g, j, none⟩) hg.2 (fun hs => by have := hg.1; have := hg.2; have hs : g = g1 ∨ g = g3 := hs; omega)), by omega, by omega⟩
 ·rw [HX.out, hF.out hb]
  rfl
set_option maxHeartbeats 4000000 in
set_option maxRecDepth 100000 in
theorem atom_paren_ref (p : ByteArray) (hp : p.size ≤ 1000) (i : Nat) (hi : i < p.size) (hc : p[i] = 40) (IH : ∀ V, Calls Tryz.prog 132 #[.string p, .int .i64 ((i : Int) + 1)] V (ExpQ p (i + 1) V)) (w : World) : Calls Tryz.prog 157 #[.string p, .int .i64 (i : Int)] w (AtmQ p i w) := by
 have ZL := Lib.hid Z50_len
 have ZZ := Lib.hid zero50'
 have BZ := Lib.hid built_zero50
 have OZ : Hid (∀ v ∈ Z50, v.oneCell' = true) := (nod_ok _ _ _).2
 generalize Z50 = Z at ZL ZZ BZ OZ
 have hi0 : (0 : Int) ≤ (i : Int) := Int.natCast_nonneg _
 have hi1 : (i : Int) < (p.size : Int) := by omega
 have HD := Lib.hid (drop_cons_ p hi)
 have KS := Lib.hid (fun V => special_any p[i] V)
 rw [show special p[i] = true by rw [hc]; rfl] at KS
 have F46 : Hid ((((p[i].toNat : Nat) : Int) == 46) = false) := bne_u8 (k := 46) (by decide) (by rw [hc]; decide)
 have F92 : Hid ((((p[i].toNat : Nat) : Int) == 92) = false) := bne_u8 (k := 92) (by decide) (by rw [hc]; decide)
 have F91 : Hid ((((p[i].toNat : Nat) : Int) == 91) = false) := bne_u8 (k := 91) (by decide) (by rw [hc]; decide)
 have F40 : Hid ((((p[i].toNat : Nat) : Int) != 40) = false) := eq_u8 (k := 40) (by decide) hc
 have KE := Lib.hid IH
 have HX : Hid (ax (p.data.toList.drop i) = closed (ex [] [] (p.data.toList.drop (i + 1)))) := by
  show _ = _
  rw [HD.out, hc, ax_paren]
 clear hc IH
 go_enter Tryz.func157, Tryz.ntmps157
 go_upto_region 4 with (first
  | ((with_reducible refine wpList_alloc_abs (o := ⟨some 4, .alloc 102, _, _, _, _⟩) rfl 102 rfl Z ZZ.out ?_); intro g1 w1 e1 k1 b1 s1)
  | (go_at_call 176; (with_reducible refine (KS.out _).mono ?_); rintro e wz ⟨rfl, rfl⟩))
 have f46 := F46.out
 have f92 := F92.out
 have f91 := F91.out
 have f40 := F40.out
 go_upto_region 21 with (first
  | (go_at_call 132; (with_reducible refine (KE.out _).mono ?_); rintro e w2 ⟨C, k, b, rfl, hC, hT, hF, b2⟩)
  | ((with_reducible refine wpList_alloc_abs (o := ⟨some 12, .alloc 102, _, _, _, _⟩) rfl 102 rfl Z ZZ.out ?_); intro g3 w3 e3 k3 b3 s3)
  | ((with_reducible refine wpList_store_abs (o := ⟨_, .store 102 (.tmp 12) (.tmp 100), _, _, _, _⟩) rfl 102 _ _ rfl rfl g3 C ?_ ?_ 102 Z (k3.out) 259 size50 hC.out.1 ZL.out hC.out.2 ?_); (· rfl); (· rfl); intro w4 k4 b4 s4))
 have h2 := e1.out
 have h3 := b1.out.size
 have h4 := b2.out.size
 have h5 := b3.out.size
 have h6 := e3.out
 have h7 := b4.out.size
 have h8 := k1.out.lt
 have B24 : Hid (But (fun n => n = g1 ∨ n = g3) w2 w4) := (But.of_below (S := fun n => n = g1 ∨ n = g3) b3.out).trans b4.out (fun n _ h => .inr h)
 have K1 : Hid (Blk w4 g1 102 Z) := ((k1.out.below b2.out k1.out.lt).below b3.out (by omega)).but b4.out (by omega)
 have GG : Hid (w.heap.size = g1 ∧ w.heap.size ≤ w1.heap.size ∧ g1 < w1.heap.size ∧ w1.heap.size ≤ w2.heap.size ∧ w2.heap.size = g3) := ⟨h2, h3, h8, h4, h6⟩
 clear f46 f92 f91 f40 h2 h3 h4 h5 h6 h7 h8 e1 k1 s1 e3 k3 b3 s3 s4 b4
 have FAIL : Hid (ax (p.data.toList.drop i) = none → ∀ w5, But (· = g1) w4 w5 → AtmQ p i w (.returned (.tuple #[.agg Z.toArray, .int .i64 (i : Int), .bool false])) w5) := fun hn w5 b5 =>
  ⟨Z, i, false, rfl, ⟨ZL.out, OZ.out⟩, fun h => (by cases h), fun _ => hn, b1.out.trans ((b2.out.mono (GG.out).2.1).trans ((B24.out.trans b5 (fun n _ h => .inl h)).below (by have := GG.out; omega) (fun n hn => by have := GG.out; omega)))⟩
 cases b with
 | false =>
  have HN := Lib.hid (FAIL.out (by rw [HX.out, hF.out rfl]; rfl))
  go_wp2_with (first
   | ((with_reducible refine wpList_build_abs (o := ⟨_, .build 102 _, _, _, _, _⟩) rfl 102 _ rfl [] ?_ Z BZ.out ?_); (· first | (simp; done) | (simp; rfl) | (simp; exact ⟨rfl, rfl⟩)))
   | ((with_reducible refine wpList_store_abs (o := ⟨_, .store 102 (.tmp 4) (.tmp 117), _, _, _, _⟩) rfl 102 _ _ rfl rfl g1 Z ?_ ?_ 102 Z (K1.out) 259 size50 ZL.out ZL.out OZ.out ?_); (· rfl); (· rfl); intro w5 k5 b5 s5))
  refine bodyPost_ret (res_node3 rfl rfl rfl rfl k5.out ZL.out) rfl ?_
  exact HN.out _ b5.out
 | true =>
  obtain ⟨n, h9, h10, h11, h12⟩ := hT.out rfl
  have H9 := Lib.hid h9
  have H10 := Lib.hid h10
  have hk0 : (0 : Int) ≤ (k : Int) := Int.natCast_nonneg _
  clear h9 h10 hT hF
  by_cases hks : k < p.size
  ·have hks' : (k : Int) < (p.size : Int) := by omega
   have HDK := Lib.hid (drop_cons_ p hks)
   by_cases h41 : p[k] = 41
   ·have f41 : (((p[k].toNat : Nat) : Int) != 41) = false := eq_u8 (k := 41) (by decide) h41
    have HE : Hid (ax (p.data.toList.drop i) = some (n, p.data.toList.drop (k + 1))) := by
     show _ = _
     rw [HX.out, H9.out, HDK.out, h41]
     rfl
    clear h41
    go_wp2_with (first
     | ((with_reducible refine wpList_load_abs (o := ⟨_, .load 102 (.tmp 12), _, _, _, _⟩) rfl 102 _ rfl g3 0 ?_ C (k4.out.range) _ Tryz.underlying102 rfl 259 size50 hC.out.1 ?_); (· rfl))
     | ((with_reducible refine wpList_store_abs (o := ⟨_, .store 102 (.tmp 4) (.tmp 119), _, _, _, _⟩) rfl 102 _ _ rfl rfl g1 C ?_ ?_ 102 Z (K1.out) 259 size50 hC.out.1 ZL.out hC.out.2 ?_); (· rfl); (· rfl); intro w5 k5 b5 s5))
    refine bodyPost_ret (res_node3 rfl rfl rfl rfl k5.out hC.out.1) rfl ?_
    have B25 : But (fun n => n = g1 ∨ n = g3) w2 w5 := B24.out.trans b5.out (fun n _ h => .inl h)
    refine ⟨C, k + 1, true, rfl, hC.out, fun _ => ⟨n, HE.out, H10.out.keep (fun m hm => ⟨by have := hm.1; have := GG.out; omega, by have := hm.2; have := B25.size; omega⟩) (fun g j hg => B25.cell (p := ⟨g, j, none⟩) hg.2 (fun hs => by have := hg.1; have := hg.2; have := GG.out; have hs : g = g1 ∨ g = g3 := hs; omega)), by omega, by omega⟩, fun h => (by cases h), b1.out.trans ((b2.out.mono (GG.out).2.1).trans (B25.below (by have := GG.out; omega) (fun n hn => by have := GG.out; omega)))⟩
   ·have f41 : (((p[k].toNat : Nat) : Int) != 41) = true := neq_u8 (k := 41) (by decide) h41
    have HN := Lib.hid (FAIL.out (by rw [HX.out, H9.out, HDK.out, closed, if_neg h41]))
    clear h41
    go_wp2_with (first
     | ((with_reducible refine wpList_build_abs (o := ⟨_, .build 102 _, _, _, _, _⟩) rfl 102 _ rfl [] ?_ Z BZ.out ?_); (· first | (simp; done) | (simp; rfl) | (simp; exact ⟨rfl, rfl⟩)))
     | ((with_reducible refine wpList_store_abs (o := ⟨_, .store 102 (.tmp 4) (.tmp 117), _, _, _, _⟩) rfl 102 _ _ rfl rfl g1 Z ?_ ?_ 102 Z (K1.out) 259 size50 ZL.out ZL.out OZ.out ?_); (· rfl); (· rfl); intro w5 k5 b5 s5))
    refine bodyPost_ret (res_node3 rfl rfl rfl rfl k5.out ZL.out) rfl ?_
    exact HN.out _ b5.out
  ·have hks' : ¬ ((k : Int) < (p.size : Int)) := by omega
   have HN := Lib.hid (FAIL.out (by rw [HX.out, H9.out, drop_end (by omega)]; rfl))
   go_wp2_with (first
    | ((with_reducible refine wpList_build_abs (o := ⟨_, .build 102 _, _, _, _, _⟩) rfl 102 _ rfl [] ?_ Z BZ.out ?_); (· first | (simp; done) | (simp; rfl) | (simp; exact ⟨rfl, rfl⟩)))
    | ((with_reducible refine wpList_store_abs (o := ⟨_, .store 102 (.tmp 4) (.tmp 117), _, _, _, _⟩) rfl 102 _ _ rfl rfl g1 Z ?_ ?_ 102 Z (K1.out) 259 size50 ZL.out ZL.out OZ.out ?_); (· rfl); (· rfl); intro w5 k5 b5 s5))
   refine bodyPost_ret (res_node3 rfl rfl rfl rfl k5.out ZL.out) rfl ?_
   exact HN.out _ b5.out
theorem atom_any_ref (p : ByteArray) (hp : p.size ≤ 1000) (i : Nat) (hi : i < p.size) (IH : ∀ V, Calls Tryz.prog 132 #[.string p, .int .i64 ((i : Int) + 1)] V (ExpQ p (i + 1) V)) (w : World) : Calls Tryz.prog 157 #[.string p, .int .i64 (i : Int)] w (AtmQ p i w) := by
 cases hs : special p[i] with
 | false => exact atom_plain_ref p hp i hi hs w
 | true =>
  by_cases h1 : p[i] = 46
  ·exact atom_dot_ref p hp i hi h1 w
  ·by_cases h2 : p[i] = 92
   ·by_cases h3 : i + 1 < p.size
    ·exact atom_esc_ref p hp i hi h2 h3 w
    ·exact atom_end_esc p hp i hi h2 h3 w
   ·by_cases h3 : p[i] = 91
    ·by_cases h4 : i + 1 < p.size
     ·by_cases h5 : p[i + 1] = 94
      ·exact atom_brk_inv p hp i hi h3 h4 h5 w
      ·exact atom_brk p hp i hi h3 h4 h5 w
     ·exact atom_brk_end p hp i hi h3 h4 w
    ·by_cases h4 : p[i] = 40
     ·exact atom_paren_ref p hp i hi h4 IH w
     ·exact atom_bad_ref p hp i hi hs h1 h2 h3 h4 w
end Go.Proofs.YtdeppcddknakjaaGreatDoor.Rx
namespace Go.Proofs.YtdeppcddknakjaaGreatDoor.Rx
open Go.RowKit
/-- The blocks that nodes may lie in. -/
def TX (B : Nat) (wr : World) (vo vn : Value) (n : Nat) : Prop := B ≤ n ∧ n < wr.heap.size ∧ some n ≠ vo.ownBlock ∧ some n ≠ vn.ownBlock
/-- What the reference's expression keeps: the node that it makes lies at g7, the sequence at g8. -/
structure EX (w0 wr : World) (B g1 g7 g8 : Nat) (Z : List Value) (vo vn : Value) (outs now : List Re) (xo xn : List Value) : Prop where
 ord : w0.heap.size ≤ g1 ∧ g1 < g7 ∧ g7 < g8 ∧ g8 < B ∧ B ≤ wr.heap.size
 r1 : Blk wr g1 102 Z
 r7 : Blk wr g7 102 (nodL 3 none_ false vo)
 r8 : Blk wr g8 102 (nodL 2 none_ false vn)
 oo : wr.ownsRow B 102 259 vo outs.length xo
 on : wr.ownsRow B 102 259 vn now.length xn
 ne : ∀ g, vo.ownBlock = some g → vn.ownBlock ≠ some g
 no : NodL wr (TX B wr vo vn) xo outs
 nn : NodL wr (TX B wr vo vn) xn now
 bl : Below w0.heap.size w0 wr
section
variable {w0 wr : World} {B g1 g7 g8 : Nat} {Z : List Value} {vo vn : Value} {outs now : List Re} {xo xn : List Value}
theorem EX.lt_o (h : EX w0 wr B g1 g7 g8 Z vo vn outs now xo xn) : ∀ g, vo.ownBlock = some g → B ≤ g ∧ g < wr.heap.size := World.ownsRow.lt h.oo
theorem EX.lt_n (h : EX w0 wr B g1 g7 g8 Z vo vn outs now xo xn) : ∀ g, vn.ownBlock = some g → B ≤ g ∧ g < wr.heap.size := World.ownsRow.lt h.on
theorem EX.below (h : EX w0 wr B g1 g7 g8 Z vo vn outs now xo xn) {w' : World} (hb : Below wr.heap.size wr w') : EX w0 w' B g1 g7 g8 Z vo vn outs now xo xn := by
 have k : But (fun _ => False) wr w' := But.of_below hb
 have ho := h.ord
 refine ⟨⟨ho.1, ho.2.1, ho.2.2.1, ho.2.2.2.1, Nat.le_trans ho.2.2.2.2 hb.size⟩, h.r1.but k id, h.r7.but k id, h.r8.but k id, h.oo.on_but k (fun _ _ => id), h.on.on_but k (fun _ _ => id), h.ne, h.no.keep (fun n hn => ⟨hn.1, Nat.lt_of_lt_of_le hn.2.1 hb.size, hn.2.2⟩) (fun b j hb2 => k.cell (p := ⟨b, j, none⟩) hb2.2.1 id), h.nn.keep (fun n hn => ⟨hn.1, Nat.lt_of_lt_of_le hn.2.1 hb.size, hn.2.2⟩) (fun b j hb2 => k.cell (p := ⟨b, j, none⟩) hb2.2.1 id), h.bl.trans (hb.mono h.bl.size)⟩
theorem grown_but {w1 w2 w3 : World} {v : Value} (hb2 : Below w1.heap.size w1 w2) (hg : w2.grownBy w3 v.ownBlock) : But (fun k => some k = v.ownBlock) w1 w3 ∧ w2.heap.size ≤ w3.heap.size :=
 ⟨(But.of_below (S := fun k => some k = v.ownBlock) hb2).trans (S' := fun k => some k = v.ownBlock) ⟨hg.os, hg.tape, hg.output, hg.size, fun k hk hne => hg.block k hk (fun e => hne e)⟩ (fun _ _ h => h), hg.size⟩
/-- A node more in the sequence. -/
theorem EX.grow (h : EX w0 wr B g1 g7 g8 Z vo vn outs now xo xn) {C : List Value} {p : Re} (hC : ReV wr (TX B wr vo vn) C p) {w2 w3 : World} {v' : Value}
  (hown : w3.ownsRow B 102 259 v' (now.length + 1) (xn ++ C)) (hb2 : Below wr.heap.size wr w2) (hg : w2.grownBy w3 vn.ownBlock) (hor : v'.ownBlock = vn.ownBlock ∨ v'.ownBlock = some w2.heap.size) :
  EX w0 (w3.setCell ⟨g8, 258, none⟩ v') B g1 g7 g8 Z vo v' outs (now ++ [p]) xo (xn ++ C) := by
 obtain ⟨b3, hs⟩ := grown_but hb2 hg
 have hs2 := hb2.size
 have ho := h.ord
 have hln := h.lt_n
 have hlo := h.lt_o
 have b4 : But (fun k => some k = vn.ownBlock ∨ k = g8) wr (w3.setCell ⟨g8, 258, none⟩ v') := (b3.mono (fun n _ e => .inl e)).setCell (S := fun k => some k = vn.ownBlock ∨ k = g8) (p := ⟨g8, 258, none⟩) (fun _ => .inr rfl) v'
 have hs4 : (w3.setCell ⟨g8, 258, none⟩ v').heap.size = w3.heap.size := World.size_setCell _ _ _
 have hnot : ∀ n, n < B → n ≠ g8 → ¬ (some n = vn.ownBlock ∨ n = g8) := fun n hn h8 hs => by
  rcases hs with hs | hs
  ·have := (hln n hs.symm).1; omega
  ·exact h8 hs
 have hT : ∀ n, TX B wr vo vn n → TX B (w3.setCell ⟨g8, 258, none⟩ v') vo v' n := fun n hn => ⟨hn.1, by have := hn.2.1; omega, hn.2.2.1, fun e => by
  rcases hor with hor | hor
  ·exact hn.2.2.2 (e.trans hor)
  ·rw [hor] at e; injection e with e; have := hn.2.1; omega⟩
 have hk : ∀ b j, TX B wr vo vn b → (w3.setCell ⟨g8, 258, none⟩ v').cell? ⟨b, j, none⟩ = wr.cell? ⟨b, j, none⟩ := fun b j hb => b4.cell (p := ⟨b, j, none⟩) hb.2.1 (fun hs => by
  rcases hs with hs | hs
  ·exact hb.2.2.2 hs
  ·have hs : b = g8 := hs; have := hb.1; omega)
 have hown' : (w3.setCell ⟨g8, 258, none⟩ v').ownsRow B 102 259 v' (now ++ [p]).length (xn ++ C) := by
  rw [List.length_append, List.length_singleton]
  exact hown.on_but (S := (· = g8)) (But.setCell (S := (· = g8)) (But.refl _ _) (p := ⟨g8, 258, none⟩) (fun _ => rfl) v') (fun g hg (e : g = g8) => by have := (World.ownsRow.lt hown g hg).1; omega)
 refine ⟨⟨ho.1, ho.2.1, ho.2.2.1, ho.2.2.2.1, by omega⟩, h.r1.but b4 (hnot _ (by omega) (by omega)), h.r7.but b4 (hnot _ (by omega) (by omega)), ?_, h.oo.on_but b4 (fun g hg hs => ?_), hown', fun g hg hv => ?_, h.no.keep hT hk, ?_, h.bl.trans (b4.below h.bl.size (fun n hn => ?_))⟩
 ·have h8 : Blk w3 g8 102 (nodL 2 none_ false vn) := h.r8.but b3 (fun e => by have := (hln g8 e.symm).1; omega)
  have := h8.set 258 v'
  rwa [nodL_w2] at this
 ·rcases hs with hs | hs
  ·exact h.ne g hg hs.symm
  ·have := (hlo g hg).1; omega
 ·rcases hor with hor | hor
  ·exact h.ne g hg (hor.symm.trans hv)
  ·rw [hor] at hv; injection hv with hv; have := (hlo g hg).2; omega
 ·exact (h.nn.keep hT hk).snoc (hC.keep hT hk)
 ·rcases hn with hn | hn
  ·have := (hln n hn.symm).1; omega
  ·omega
/-- The sequence becomes an alternative. -/
theorem EX.out_ (h : EX w0 wr B g1 g7 g8 Z vo vn outs now xo xn) (hl : now.length ≤ 1001) {w2 w3 : World} {v' : Value}
  (hown : w3.ownsRow B 102 259 v' (outs.length + 1) (xo ++ nodL 2 none_ false vn)) (hb2 : Below wr.heap.size wr w2) (hg : w2.grownBy w3 vo.ownBlock) (hor : v'.ownBlock = vo.ownBlock ∨ v'.ownBlock = some w2.heap.size) :
  (w3.setCell ⟨g7, 258, none⟩ v').ownsRow B 102 259 v' (outs ++ [Re.cat now]).length (xo ++ nodL 2 none_ false vn) ∧
  NodL (w3.setCell ⟨g7, 258, none⟩ v') (fun n => B ≤ n ∧ n < (w3.setCell ⟨g7, 258, none⟩ v').heap.size ∧ some n ≠ v'.ownBlock) (xo ++ nodL 2 none_ false vn) (outs ++ [Re.cat now]) ∧
  Blk (w3.setCell ⟨g7, 258, none⟩ v') g7 102 (nodL 3 none_ false v') ∧ Blk (w3.setCell ⟨g7, 258, none⟩ v') g1 102 Z ∧ Blk (w3.setCell ⟨g7, 258, none⟩ v') g8 102 (nodL 2 none_ false vn) ∧
  Below w0.heap.size w0 (w3.setCell ⟨g7, 258, none⟩ v') ∧ wr.heap.size ≤ (w3.setCell ⟨g7, 258, none⟩ v').heap.size := by
 obtain ⟨b3, hs⟩ := grown_but hb2 hg
 have hs2 := hb2.size
 have ho := h.ord
 have hln := h.lt_n
 have hlo := h.lt_o
 have b4 : But (fun k => some k = vo.ownBlock ∨ k = g7) wr (w3.setCell ⟨g7, 258, none⟩ v') := (b3.mono (fun n _ e => .inl e)).setCell (S := fun k => some k = vo.ownBlock ∨ k = g7) (p := ⟨g7, 258, none⟩) (fun _ => .inr rfl) v'
 have hs4 : (w3.setCell ⟨g7, 258, none⟩ v').heap.size = w3.heap.size := World.size_setCell _ _ _
 have hnot : ∀ n, n < B → n ≠ g7 → ¬ (some n = vo.ownBlock ∨ n = g7) := fun n hn h8 hs => by
  rcases hs with hs | hs
  ·have := (hlo n hs.symm).1; omega
  ·exact h8 hs
 have hnv : ∀ n, n < wr.heap.size → some n ≠ vo.ownBlock → some n ≠ v'.ownBlock := fun n hn h1 e => by
  rcases hor with hor | hor
  ·exact h1 (e.trans hor)
  ·rw [hor] at e; injection e with e; omega
 have hk : ∀ b j, B ≤ b → b < wr.heap.size → some b ≠ vo.ownBlock → (w3.setCell ⟨g7, 258, none⟩ v').cell? ⟨b, j, none⟩ = wr.cell? ⟨b, j, none⟩ := fun b j hb h1 h2 => b4.cell (p := ⟨b, j, none⟩) h1 (fun hs => by
  rcases hs with hs | hs
  ·exact h2 hs
  ·have hs : b = g7 := hs; omega)
 have hT : ∀ n, TX B wr vo vn n → B ≤ n ∧ n < (w3.setCell ⟨g7, 258, none⟩ v').heap.size ∧ some n ≠ v'.ownBlock := fun n hn => ⟨hn.1, by have := hn.2.1; omega, hnv n hn.2.1 hn.2.2.1⟩
 refine ⟨?_, (h.no.keep hT (fun b j hb => hk b j hb.1 hb.2.1 hb.2.2.1)).snoc ?_, ?_, h.r1.but b4 (hnot _ (by omega) (by omega)), h.r8.but b4 (hnot _ (by omega) (by omega)), h.bl.trans (b4.below h.bl.size (fun n hn => ?_)), by omega⟩
 ·rw [List.length_append, List.length_singleton]
  exact hown.on_but (S := (· = g7)) (But.setCell (S := (· = g7)) (But.refl _ _) (p := ⟨g7, 258, none⟩) (fun _ => rfl) v') (fun g hg (e : g = g7) => by have := (World.ownsRow.lt hown g hg).1; omega)
 ·obtain ⟨A, cap, hv, hns⟩ := NsV.of_own (T := fun n => TX B wr vo vn n ∨ some n = vn.ownBlock) h.on (h.nn.keep (fun n hn => .inl hn) (fun _ _ _ => rfl)) (fun g hg => .inr hg.symm)
  rw [ReV]
  refine ⟨A, cap, by rw [hv], hl, fun hne => ?_⟩
  have hns' := hns.keep (T' := fun n => B ≤ n ∧ n < (w3.setCell ⟨g7, 258, none⟩ v').heap.size ∧ some n ≠ v'.ownBlock) (w' := w3.setCell ⟨g7, 258, none⟩ v') (fun n hn => by
   rcases hn with hn | hn
   ·exact hT n hn
   ·have := hln n hn.symm
    exact ⟨this.1, by omega, hnv n this.2 (fun e => h.ne n e.symm hn.symm)⟩) (fun b j hb => by
   rcases hb with hb | hb
   ·exact hk b j hb.1 hb.2.1 hb.2.2.1
   ·have := hln b hb.symm
    exact hk b j this.1 this.2 (fun e => h.ne b e.symm hb.symm))
  exact hns' hne
 ·have h8 : Blk w3 g7 102 (nodL 3 none_ false vo) := h.r7.but b3 (fun e => by have := (hlo g7 e.symm).1; omega)
  have := h8.set 258 v'
  rwa [nodL_w2] at this
 ·rcases hn with hn | hn
  ·have := (hlo n hn.symm).1; omega
  ·omega
set_option maxRecDepth 100000 in
/-- A new sequence. -/
theorem EX.bar (h : EX w0 wr B g1 g7 g8 Z vo vn outs now xo xn) (hl : now.length ≤ 1001) {w2 w3 w5 : World} {v' : Value}
  (hown : w3.ownsRow B 102 259 v' (outs.length + 1) (xo ++ nodL 2 none_ false vn)) (hb2 : Below wr.heap.size wr w2) (hg : w2.grownBy w3 vo.ownBlock) (hor : v'.ownBlock = vo.ownBlock ∨ v'.ownBlock = some w2.heap.size)
  (b5 : But (· = g8) (w3.setCell ⟨g7, 258, none⟩ v') w5) (k5 : Blk w5 g8 102 (nodL 2 none_ false (.slice none 0 0))) :
  EX w0 w5 B g1 g7 g8 Z v' (.slice none 0 0) (outs ++ [Re.cat now]) [] (xo ++ nodL 2 none_ false vn) [] := by
 obtain ⟨h1, h2, h3, h4, h6, h7, h8⟩ := h.out_ hl hown hb2 hg hor
 have ho := h.ord
 have hlv : ∀ g, v'.ownBlock = some g → B ≤ g ∧ g < (w3.setCell ⟨g7, 258, none⟩ v').heap.size := World.ownsRow.lt h1
 refine ⟨⟨ho.1, ho.2.1, ho.2.2.1, ho.2.2.2.1, by have := b5.size; omega⟩, h4.but b5 (by omega), h3.but b5 (by omega), k5, h1.on_but b5 (fun g hg (e : g = g8) => by have := (hlv g hg).1; omega), World.ownsRow_nil _ _ _ _, fun g _ e => (by cases e), h2.keep (fun n hn => ⟨hn.1, by have := hn.2.1; have := b5.size; omega, hn.2.2, fun e => (by cases e)⟩) (fun b j hb => b5.cell (p := ⟨b, j, none⟩) hb.2.1 (fun (e : b = g8) => by have := hb.1; omega)), NodL.nil _ _, h7.trans (b5.below h7.size (fun n (hn : n = g8) => by omega))⟩
set_option maxRecDepth 100000 in
/-- The expression's node. -/
theorem EX.last (h : EX w0 wr B g1 g7 g8 Z vo vn outs now xo xn) (hl : now.length ≤ 1001) (hl2 : outs.length ≤ 1000) {w2 w3 : World} {v' : Value}
  (hown : w3.ownsRow B 102 259 v' (outs.length + 1) (xo ++ nodL 2 none_ false vn)) (hb2 : Below wr.heap.size wr w2) (hg : w2.grownBy w3 vo.ownBlock) (hor : v'.ownBlock = vo.ownBlock ∨ v'.ownBlock = some w2.heap.size) :
  ReV (w3.setCell ⟨g7, 258, none⟩ v') (fun n => B ≤ n ∧ n < (w3.setCell ⟨g7, 258, none⟩ v').heap.size) (nodL 3 none_ false v') (.alt (outs ++ [Re.cat now])) ∧
  Blk (w3.setCell ⟨g7, 258, none⟩ v') g7 102 (nodL 3 none_ false v') ∧ Blk (w3.setCell ⟨g7, 258, none⟩ v') g1 102 Z ∧ Below w0.heap.size w0 (w3.setCell ⟨g7, 258, none⟩ v') ∧ (∃ A n cap, v' = .slice A n cap) := by
 obtain ⟨h1, h2, h3, h4, h6, h7, h8⟩ := h.out_ hl hown hb2 hg hor
 obtain ⟨A, cap, hv, hns⟩ := NsV.of_own (T := fun n => B ≤ n ∧ n < (w3.setCell ⟨g7, 258, none⟩ v').heap.size) h1 (h2.keep (fun n hn => ⟨hn.1, hn.2.1⟩) (fun _ _ _ => rfl)) (fun g hg => World.ownsRow.lt h1 g hg)
 refine ⟨?_, h3, h4, h7, ⟨A, _, cap, hv⟩⟩
 rw [ReV]
 exact ⟨A, cap, by rw [← hv], by simp; omega, hns⟩
end
end Go.Proofs.YtdeppcddknakjaaGreatDoor.Rx
namespace Go.Proofs.YtdeppcddknakjaaGreatDoor.Rx
open Go.RowKit
theorem size48 : (Tryz.prog.info? 100).map (·.size) = some 1 := by kernel_rfl
section
variable {P : Program}
theorem wpStill_load_abs {ops : Array Oper} {rest : List Oper} {o : Oper} {a : Act} {w : World} {Q : Act → Prop} (hgd : o.guard = none) (ty : TypeId) (x : Operand) (ho : o.op = .load ty x)
  (b off : Nat) (hx : a.eval x = .pointer (some ⟨b, off, none⟩)) (cs : List Value) (hc : w.rangeAt b off cs) (d : TypeDesc)
  (hu : P.underlying ty = some d) (hd : d.isRow = true) (n : Nat) (hi : (P.info? ty).map (·.size) = some n) (hn : cs.length = n)
  (h : wpStill P ops w Q rest (a.put o.dst (.agg cs.toArray))) : wpStill P ops w Q (o :: rest) a := by
 refine wpStill_step (fun K hK => ?_)
 simp only [Region.wanted, hgd, if_true]
 unfold Oper.still execOp
 simp only [ho, hx, Instr.loadAt, Instr.sureAddr, Sem.run_bind, Sem.run_pure, Result.andThen_ok, run_loadVar_mid w b off ty cs d hc hu hd (hi.trans (by rw [hn])), Oper.stillUpon]
 exact ⟨trivial, hK _ h⟩
theorem wpList_store_is {ops : Array Oper} {rest : List Oper} {o : Oper} {a : Act} {w : World} {Q : Exit → Act → World → Prop} (hgd : o.guard = none) (ty : TypeId) (x y : Operand) (ho : o.op = .store ty x y) (hd : o.dst = none)
  (g j : Nat) (v : Value) (hx : a.eval x = .pointer (some ⟨g, j, none⟩)) (hy : a.eval y = v) (h1 : v.oneCell' = true)
  (t : TypeId) (l : List Value) (hg : Blk w g t l) (hj : j < l.length) (hi : (P.info? ty).map (·.size) = some 1)
  (h : ∀ w', Hid (w.setCell ⟨g, j, none⟩ v = w') → wpList P ops Q rest a w') : wpList P ops Q (o :: rest) a w := by
 have hc : v.cells = #[v] := by cases v <;> first | rfl | cases h1
 have hcell : w.cell? ⟨g, j, none⟩ = some l[j] := by rw [hg.cell]; exact List.getElem?_eq_getElem hj
 have hfro := hg.froz j
 have hst : (storeVar ty ⟨g, j, none⟩ v).run P w = .ok () (w.setCell ⟨g, j, none⟩ v) := by
  have h0 := run_storeCells_cells (P := P) g j [v] 0 w (fun i hi => by
   have : i = 0 := by simpa using hi
   subst this
   simp [hcell]) (fun i hi => by
   have : i = 0 := by simpa using hi
   subst this
   simp [hfro]) (fun u hu => by simp only [List.mem_singleton] at hu; subst hu; exact h1)
  cases hq : P.info? ty with
  | none => rw [hq] at hi; cases hi
  | some i =>
   have hs : i.size = 1 := by rw [hq] at hi; simpa using hi
   simp only [Nat.add_zero] at h0
   simp [storeVar, sizeOf, typeInfo, hq, hc, hs, h0, World.setCells]
 refine wpList_plain hgd fun _ hK => ?_
 unfold Oper.wp execOp
 simp only [ho, hx, hy, Instr.storeAt, Instr.sureAddr, Sem.run_bind, Sem.run_pure, Result.andThen_ok, hst]
 refine hK _ _ ?_
 rw [hd]
 exact h _ rfl
end
theorem own_cell' {w : World} {B : Nat} {e : TypeId} {size : Nat} {v : Value} {n : Nat} {xs : List Value} (h : w.ownsRow B e size v n xs) : v.oneCell' = true := by
 rcases h.2 with ⟨rfl, _⟩ | ⟨g, cap, cur, rfl, _⟩
 ·rfl
 ·rfl
/-- Does a repetition stand here? -/
def RepAt (p : ByteArray) (k : Nat) : Prop := ∃ h : k < p.size, rep p[k] = true
theorem post_no (n : Re) {p : ByteArray} {k : Nat} (h : ¬ RepAt p k) : post n (p.data.toList.drop k) = some (n, p.data.toList.drop k) := post_plain fun c r e => by
 by_cases hk : k < p.size
 ·rw [drop_cons_ p hk] at e
  injection e with e1 e2
  rw [← e1]
  cases hr : rep p[k] with
  | false => rfl
  | true => exact absurd ⟨hk, hr⟩ h
 ·rw [drop_end (by omega)] at e
  cases e
theorem post_one (n : Re) {p : ByteArray} {k : Nat} (hk : k < p.size) (hr : rep p[k] = true) (h : ¬ RepAt p (k + 1)) : post n (p.data.toList.drop k) = some (repRe n p[k], p.data.toList.drop (k + 1)) := by
 rw [drop_cons_ p hk]
 by_cases h1 : k + 1 < p.size
 ·rw [drop_cons_ p h1, post, if_pos hr, if_neg (fun e => h ⟨h1, e⟩)]
 ·rw [drop_end (p := p) (i := k + 1) (by omega), post, if_pos hr]
theorem post_two (n : Re) {p : ByteArray} {k : Nat} (hk : k < p.size) (hr : rep p[k] = true) (h : RepAt p (k + 1)) : post n (p.data.toList.drop k) = none := by
 obtain ⟨h1, h2⟩ := h
 rw [drop_cons_ p hk, drop_cons_ p h1, post, if_pos hr, if_pos h2]
theorem rep_is {c : UInt8} : rep c = true ↔ c = 42 ∨ c = 43 ∨ c = 63 := by unfold rep; simp [or_assoc]
section
variable {w0 wr : World} {B g1 g7 g8 : Nat} {Z : List Value} {vo vn : Value} {outs now : List Re} {xo xn : List Value}
theorem EX.c7 (h : EX w0 wr B g1 g7 g8 Z vo vn outs now xo xn) : wr.cell? ⟨g7, 258, none⟩ = some vo := (h.r7.cell 258).trans (nodL_tl _ _ _ _).2
theorem EX.c8 (h : EX w0 wr B g1 g7 g8 Z vo vn outs now xo xn) : wr.cell? ⟨g8, 258, none⟩ = some vn := (h.r8.cell 258).trans (nodL_tl _ _ _ _).2
theorem EX.l7 (h : EX w0 wr B g1 g7 g8 Z vo vn outs now xo xn) : (nodL 3 none_ false vo).length = 259 ∧ ∀ v ∈ nodL 3 none_ false vo, v.oneCell' = true := ⟨nodL_len _ _ _ _, nodL_one _ _ _ (own_cell' h.oo)⟩
theorem EX.l8 (h : EX w0 wr B g1 g7 g8 Z vo vn outs now xo xn) : (nodL 2 none_ false vn).length = 259 ∧ ∀ v ∈ nodL 2 none_ false vn, v.oneCell' = true := ⟨nodL_len _ _ _ _, nodL_one _ _ _ (own_cell' h.on)⟩
theorem EX.start {w5 : World} (h : w0.heap.size ≤ g1 ∧ g1 < g7 ∧ g7 < g8 ∧ g8 < w5.heap.size) (k1 : Blk w5 g1 102 Z) (k7 : Blk w5 g7 102 (nodL 3 none_ false (.slice none 0 0))) (k8 : Blk w5 g8 102 (nodL 2 none_ false (.slice none 0 0))) (hb : Below w0.heap.size w0 w5) :
  EX w0 w5 w5.heap.size g1 g7 g8 Z (.slice none 0 0) (.slice none 0 0) [] [] [] [] :=
 ⟨⟨h.1, h.2.1, h.2.2.1, h.2.2.2, Nat.le_refl _⟩, k1, k7, k8, World.ownsRow_nil _ _ _ _, World.ownsRow_nil _ _ _ _, fun g e => (by cases e), NodL.nil _ _, NodL.nil _ _, hb⟩
theorem EX.oo' (h : EX w0 wr B g1 g7 g8 Z vo vn outs now xo xn) {w2 : World} (hb2 : Below wr.heap.size wr w2) : w2.ownsRow B 102 259 vo outs.length xo := h.oo.on_but (But.of_below (S := fun _ => False) hb2) (fun _ _ => id)
theorem EX.on' (h : EX w0 wr B g1 g7 g8 Z vo vn outs now xo xn) {w2 : World} (hb2 : Below wr.heap.size wr w2) : w2.ownsRow B 102 259 vn now.length xn := h.on.on_but (But.of_below (S := fun _ => False) hb2) (fun _ _ => id)
theorem EX.g7' (h : EX w0 wr B g1 g7 g8 Z vo vn outs now xo xn) {w2 w3 : World} (hb2 : Below wr.heap.size wr w2) (hg : w2.grownBy w3 vo.ownBlock) : Blk w3 g7 102 (nodL 3 none_ false vo) := h.r7.but (grown_but hb2 hg).1 (fun e => by have := (h.lt_o g7 e.symm).1; have := h.ord; omega)
theorem EX.g8' (h : EX w0 wr B g1 g7 g8 Z vo vn outs now xo xn) {w2 w3 : World} (hb2 : Below wr.heap.size wr w2) (hg : w2.grownBy w3 vn.ownBlock) : Blk w3 g8 102 (nodL 2 none_ false vn) := h.r8.but (grown_but hb2 hg).1 (fun e => by have := (h.lt_n g8 e.symm).1; have := h.ord; omega)
theorem EX.tx (h : EX w0 wr B g1 g7 g8 Z vo vn outs now xo xn) {w' : World} {m : Nat} (h1 : wr.heap.size ≤ m) (h2 : m < w'.heap.size) : TX B w' vo vn m :=
 ⟨by have := h.ord; omega, h2, fun e => by have := (h.lt_o m e.symm).2; omega, fun e => by have := (h.lt_n m e.symm).2; omega⟩
theorem EX.node (h : EX w0 wr B g1 g7 g8 Z vo vn outs now xo xn) {w1 w' : World} {C : List Value} {n : Re} {T : Nat → Prop} (hC : ReV w1 T C n) (hT : ∀ m, T m → wr.heap.size ≤ m ∧ m < w'.heap.size) (hk : ∀ b j, T b → w'.cell? ⟨b, j, none⟩ = w1.cell? ⟨b, j, none⟩) : ReV w' (TX B w' vo vn) C n :=
 hC.keep (fun m hm => h.tx (hT m hm).1 (hT m hm).2) hk
theorem EX.last' (h : EX w0 wr B g1 g7 g8 Z vo vn outs now xo xn) (hl : now.length ≤ 1001) (hl2 : outs.length ≤ 1000) {w2 w3 w4 : World} {v' : Value} {L8 L9 : List Value} (h8 : L8 = nodL 2 none_ false vn)
  (hown : w3.ownsRow B 102 259 v' (outs.length + 1) (xo ++ L8)) (hb2 : Below wr.heap.size wr w2) (hg : w2.grownBy w3 vo.ownBlock) (hor : v'.ownBlock = vo.ownBlock ∨ v'.ownBlock = some w2.heap.size) (he : w3.setCell ⟨g7, 258, none⟩ v' = w4) (h9 : L9 = nodL 3 none_ false v') :
  ReV w4 (fun n => B ≤ n ∧ n < w4.heap.size) L9 (.alt (outs ++ [.cat now])) ∧ Blk w4 g7 102 L9 ∧ Blk w4 g1 102 Z ∧ Below w0.heap.size w0 w4 := by
 subst he h8 h9
 have := h.last hl hl2 hown hb2 hg hor
 exact ⟨this.1, this.2.1, this.2.2.1, this.2.2.2.1⟩
theorem EX.bar' (h : EX w0 wr B g1 g7 g8 Z vo vn outs now xo xn) (hl : now.length ≤ 1001) {w2 w3 w4 w5 : World} {v' : Value} {L8 N8 : List Value} (h8 : L8 = nodL 2 none_ false vn) (hn8 : N8 = nodL 2 none_ false (.slice none 0 0))
  (hown : w3.ownsRow B 102 259 v' (outs.length + 1) (xo ++ L8)) (hb2 : Below wr.heap.size wr w2) (hg : w2.grownBy w3 vo.ownBlock) (hor : v'.ownBlock = vo.ownBlock ∨ v'.ownBlock = some w2.heap.size) (he : w3.setCell ⟨g7, 258, none⟩ v' = w4)
  (b5 : But (· = g8) w4 w5) (k5 : Blk w5 g8 102 N8) :
  EX w0 w5 B g1 g7 g8 Z v' (.slice none 0 0) (outs ++ [.cat now]) [] (xo ++ L8) [] := by
 subst he h8 hn8
 exact h.bar hl hown hb2 hg hor b5 k5
theorem EX.bar8 (h : EX w0 wr B g1 g7 g8 Z vo vn outs now xo xn) {w2 w3 w4 : World} {v' : Value} {L8 : List Value} (h8 : L8 = nodL 2 none_ false vn) (hb2 : Below wr.heap.size wr w2) (hg : w2.grownBy w3 vo.ownBlock) (he : w3.setCell ⟨g7, 258, none⟩ v' = w4) : Blk w4 g8 102 L8 := by
 subst he h8
 have ho := h.ord
 exact (h.r8.but (grown_but hb2 hg).1 (fun e => by have := (h.lt_o g8 e.symm).1; omega)).setOther (p := ⟨g7, 258, none⟩) (by show g7 ≠ g8; omega) v'
theorem EX.grow' (h : EX w0 wr B g1 g7 g8 Z vo vn outs now xo xn) {C : List Value} {p : Re} (hC : ReV wr (TX B wr vo vn) C p) {w2 w3 w4 : World} {v' : Value}
  (hown : w3.ownsRow B 102 259 v' (now.length + 1) (xn ++ C)) (hb2 : Below wr.heap.size wr w2) (hg : w2.grownBy w3 vn.ownBlock) (hor : v'.ownBlock = vn.ownBlock ∨ v'.ownBlock = some w2.heap.size) (he : w3.setCell ⟨g8, 258, none⟩ v' = w4) :
  EX w0 w4 B g1 g7 g8 Z vo v' outs (now ++ [p]) xo (xn ++ C) := by
 subst he
 exact h.grow hC hown hb2 hg hor
end
end Go.Proofs.YtdeppcddknakjaaGreatDoor.Rx
namespace Go.Proofs.YtdeppcddknakjaaGreatDoor.Rx
open Go.RowKit
set_option maxHeartbeats 4000000 in
set_option maxRecDepth 100000 in
theorem expression_any_ref (p : ByteArray) (hp : p.size ≤ 1000) (i0 : Nat) (hi : i0 ≤ p.size) (w : World) (IH : ∀ j, i0 < j → j ≤ p.size → ∀ V, Calls Tryz.prog 132 #[.string p, .int .i64 (j : Int)] V (ExpQ p j V)) : Calls Tryz.prog 132 #[.string p, .int .i64 (i0 : Int)] w (ExpQ p i0 w) := by
 have KA : Hid (∀ k, i0 ≤ k → k < p.size → ∀ V, Calls Tryz.prog 157 #[.string p, .int .i64 (k : Int)] V (AtmQ p k V)) := fun k h1 h2 V => atom_any_ref p hp k h2 (fun V => IH (k + 1) (by omega) (by omega) V) V
 clear IH
 obtain ⟨ii, hI, hz0, hz1, hz2⟩ := info_parts info50
 have HI := Lib.hid hI
 have HZ0 := Lib.hid hz0
 have HZ1 := Lib.hid hz1
 have HZ2 := Lib.hid hz2
 have HZS : Hid ((Value.agg Z50.toArray).cells.size = 259) := by show (Value.agg Z50.toArray).cells.size = 259; simp [Value.cells, Z50_len]
 have IS := Lib.hid info50s
 have ZL := Lib.hid Z50_len
 have ZZ := Lib.hid zero50'
 obtain ⟨N2, hN2⟩ : ∃ N2, N2 = nodL 2 none_ false (.slice none 0 0) := ⟨_, rfl⟩
 obtain ⟨N3, hN3⟩ : ∃ N3, N3 = nodL 3 none_ false (.slice none 0 0) := ⟨_, rfl⟩
 have B2 : Hid (Tryz.prog.built 102 [(0, .int .i64 2)] = some N2.toArray) := by rw [hN2]; exact built_kind _
 have B3 : Hid (Tryz.prog.built 102 [(0, .int .i64 3)] = some N3.toArray) := by rw [hN3]; exact built_kind _
 have HN2 : Hid (N2.length = 259 ∧ ∀ v ∈ N2, v.oneCell' = true) := by rw [hN2]; exact nod_ok _ _ _
 have HN3 : Hid (N3.length = 259 ∧ ∀ v ∈ N3, v.oneCell' = true) := by rw [hN3]; exact nod_ok _ _ _
 have EN2 := Lib.hid hN2
 have EN3 := Lib.hid hN3
 clear hN2 hN3 hI hz0 hz1 hz2
 generalize hzz : Value.agg Z50.toArray = zz at HZ0 HZS IS
 have ZE := Lib.hid hzz
 clear hzz
 generalize Z50 = Z at *
 have hi0 : (0 : Int) ≤ (i0 : Int) := Int.natCast_nonneg _
 go_enter Tryz.func132, Tryz.ntmps132
 go_wp2_with (first
  | ((with_reducible refine wpList_alloc_abs (o := ⟨some 4, .alloc 102, _, _, _, _⟩) rfl 102 rfl Z ZZ.out ?_); intro g1 w1 e1 k1 b1 s1)
  | ((with_reducible refine wpList_build_abs (o := ⟨_, .build 102 _, _, _, _, _⟩) rfl 102 _ rfl [(0, .int .i64 3)] ?_ N3 B3.out ?_); (· first | (simp; done) | (simp; rfl) | (simp; exact ⟨rfl, rfl⟩)))
  | ((with_reducible refine wpList_alloc_abs (o := ⟨some 7, .alloc 102, _, _, _, _⟩) rfl 102 rfl Z ZZ.out ?_); intro g2 w2 e2 k2 b2 s2)
  | ((with_reducible refine wpList_store_abs (o := ⟨_, .store 102 (.tmp 7) (.tmp 12), _, _, _, _⟩) rfl 102 _ _ rfl rfl g2 N3 ?_ ?_ 102 Z (k2.out) 259 size50 HN3.out.1 ZL.out HN3.out.2 ?_); (· rfl); (· rfl); intro w3 k3 b3 s3)
  | ((with_reducible refine wpList_build_abs (o := ⟨_, .build 102 _, _, _, _, _⟩) rfl 102 _ rfl [(0, .int .i64 2)] ?_ N2 B2.out ?_); (· first | (simp; done) | (simp; rfl) | (simp; exact ⟨rfl, rfl⟩)))
  | ((with_reducible refine wpList_alloc_abs (o := ⟨some 8, .alloc 102, _, _, _, _⟩) rfl 102 rfl Z ZZ.out ?_); intro g4 w4 e4 k4 b4 s4)
  | ((with_reducible refine wpList_store_abs (o := ⟨_, .store 102 (.tmp 8) (.tmp 13), _, _, _, _⟩) rfl 102 _ _ rfl rfl g4 N2 ?_ ?_ 102 Z (k4.out) 259 size50 HN2.out.1 ZL.out HN2.out.2 ?_); (· rfl); (· rfl); intro w5 k5 b5 s5))
 have GG : Hid (w.heap.size = g1 ∧ g1 < w1.heap.size ∧ w1.heap.size = g2 ∧ g2 < w2.heap.size ∧ w2.heap.size = w3.heap.size ∧ w3.heap.size = g4 ∧ g4 < w4.heap.size ∧ w5.heap.size = w4.heap.size) := ⟨e1.out, k1.out.lt, e2.out, k2.out.lt, s3.out.symm, e4.out, k4.out.lt, s5.out⟩
 have hg := GG.out
 have ST : Hid (EX w w5 w5.heap.size g1 g2 g4 Z (.slice none 0 0) (.slice none 0 0) [] [] [] []) := by
  refine EX.start ⟨by omega, by omega, by omega, by omega⟩ ((((k1.out.below b2.out k1.out.lt).but b3.out (by omega)).below b4.out (by omega)).but b5.out (by omega)) ?_ ?_ ?_
  ·rw [← EN3.out]
   exact (k3.out.below b4.out (by omega)).but b5.out (by omega)
  ·rw [← EN2.out]
   exact k5.out
  ·exact b1.out.trans ((b2.out.mono (by omega)).trans ((b3.out.below (B := w.heap.size) (by omega) (fun n hn => by omega)).trans ((b4.out.mono (by omega)).trans (b5.out.below (by omega) (fun n hn => by omega)))))
 clear hg GG e1 k1 b1 s1 e2 k2 b2 s2 k3 b3 s3 e4 k4 b4 s4 k5 b5 s5
 obtain ⟨B, hB⟩ : ∃ B, B = w5.heap.size := ⟨_, rfl⟩
 rw [← hB] at ST
 clear hB
 go_simp
 go_loopw [1] (fun vi wr => ∃ (k : Nat) (outs now : List Re) (vo vn : Value) (xo xn : List Value), vi = .int .i64 (k : Int) ∧ i0 ≤ k ∧ k ≤ p.size ∧ outs.length + now.length ≤ k ∧ Hid (EX w wr B g1 g2 g4 Z vo vn outs now xo xn) ∧ Hid (ex [] [] (p.data.toList.drop i0) = ex outs now (p.data.toList.drop k))) (fun vi _ => 1001 - (intOf vi).toNat)
 case atStart => exact ⟨i0, [], [], _, _, [], [], rfl, Nat.le_refl _, hi, Nat.zero_le _, ST, rfl⟩
 case round =>
  clear ST
  obtain ⟨k, outs, now, vo, vn, xo, xn, rfl, hik, hks, hln, HE, HX⟩ := hrel
  have hk0 : (0 : Int) ≤ (k : Int) := Int.natCast_nonneg _
  by_cases hlt : k < p.size
  ·have hlt' : (k : Int) < (p.size : Int) := by omega
   have HD := Lib.hid (drop_cons_ p hlt)
   by_cases h41 : p[k] = 41
   ·have e41 : (((p[k].toNat : Nat) : Int) != 41) = false := eq_u8 (k := 41) (by decide) h41
    have HXE : Hid (ex [] [] (p.data.toList.drop i0) = some (.alt (outs ++ [.cat now]), p.data.toList.drop k)) := by
     show _ = _
     rw [HX.out, HD.out, h41, ex_close]
    clear h41 HD
    have HEO : Hid (w.heap.size ≤ g1 ∧ g1 < g2 ∧ g2 < g4 ∧ g4 < B ∧ B ≤ wr.heap.size) := HE.out.ord
    obtain ⟨L8, hL8⟩ : ∃ L8, L8 = nodL 2 none_ false vn := ⟨_, rfl⟩
    have K8 : Hid (Blk wr g4 102 L8) := by rw [hL8]; exact HE.out.r8
    have HL8 : Hid (L8.length = 259 ∧ ∀ v ∈ L8, v.oneCell' = true) := by rw [hL8]; exact HE.out.l8
    have EL8 := Lib.hid hL8
    clear hL8
    obtain ⟨L7, hL7⟩ : ∃ L7, L7 = nodL 3 none_ false vo := ⟨_, rfl⟩
    have K7 : Hid (Blk wr g2 102 L7) := by rw [hL7]; exact HE.out.r7
    have HL7 : Hid (L7.length = 259 ∧ ∀ v ∈ L7, v.oneCell' = true) := by rw [hL7]; exact HE.out.l7
    have EL7 := Lib.hid hL7
    have KG7 : Hid (∀ w2 w3, Below wr.heap.size wr w2 → w2.grownBy w3 vo.ownBlock → Blk w3 g2 102 L7) := by rw [hL7]; exact fun w2 w3 h2 h3 => HE.out.g7' h2 h3
    clear hL7
    have c7 : wr.cell? ⟨g2, 258, none⟩ = some vo := HE.out.c7
    have hlo : outs.length ≤ 1000 := by omega
    go_wp2_with (first
     | ((with_reducible refine wpList_load_abs (o := ⟨_, .load 102 (.tmp 8), _, _, _, _⟩) rfl 102 _ rfl g4 0 ?_ L8 (K8.out.range) _ Tryz.underlying102 rfl 259 size50 HL8.out.1 ?_); (· rfl))
     | ((with_reducible refine wpList_buildSlice_abs (o := ⟨_, .buildSlice 100 1 #[(0, .tmp 110)], _, _, _, _⟩) rfl 100 102 _ rfl L8 ?_ 259 HL8.out.1 (by decide) (by decide) zz Tryz.underlying100 IS.out ?_); (· rfl); intro g6 w6 e6 k6 b6 s6)
     | (at_builtin; refine wpList_append_own_at _ rfl (.tmp 109) (.tmp 111) 100 rfl B 102 ii zz 259 296 Tryz.underlying100 HI.out HZ0.out HZ1.out HZ2.out HZS.out (by decide) vo outs.length xo rfl (HE.out.oo' b6.out) ⟨g6, 0, none⟩ 1 1 L8 rfl (by rw [HL8.out.1]) (fun j u hu => by have h := k6.out.range j u hu; rw [Nat.zero_add] at h; rw [Addr.add_mid, Nat.zero_add]; exact h) HL8.out.2 (by simp only [maxLen]; omega) (by omega) (by have := b6.out.size; have := HEO.out; omega) ?_; intro v7 w7 ho7 hg7 _ hor7; have O7 := Lib.hid ho7; have G7 := Lib.hid hg7; have OR7 := Lib.hid hor7; clear ho7 hg7 hor7)
     | ((with_reducible refine wpList_store_is (o := ⟨_, .store 100 (.tmp 113) (.tmp 112), _, _, _, _⟩) rfl 100 _ _ rfl rfl g2 258 v7 ?_ ?_ (own_cell' O7.out) 102 L7 (KG7.out _ _ b6.out G7.out) (by rw [HL7.out.1]; decide) size48 ?_); (· rfl); (· rfl); intro w8 E8; obtain ⟨L9, hL9⟩ : ∃ L9, L9 = nodL 3 none_ false v7 := ⟨_, rfl⟩; have FN := Lib.hid (HE.out.last' (by omega) hlo EL8.out O7.out b6.out G7.out OR7.out E8.out hL9); clear hL9; have HL9 := Lib.hid FN.out.1.len)
     | ((with_reducible refine wpList_load_abs (o := ⟨_, .load 102 (.tmp 7), _, _, _, _⟩) rfl 102 _ rfl g2 0 ?_ L9 (FN.out.2.1.range) _ Tryz.underlying102 rfl 259 size50 HL9.out.1 ?_); (· rfl))
     | ((with_reducible refine wpList_store_abs (o := ⟨_, .store 102 (.tmp 4) (.tmp 114), _, _, _, _⟩) rfl 102 _ _ rfl rfl g1 L9 ?_ ?_ 102 Z (FN.out.2.2.1) 259 size50 HL9.out.1 ZL.out HL9.out.2 ?_); (· rfl); (· rfl); intro w9 k9 b9 s9))
    refine bodyPost_ret (res_node3 rfl rfl rfl rfl k9.out HL9.out.1) rfl ?_
    exact ⟨L9, k, true, rfl, HL9.out, fun _ => ⟨_, HXE.out, FN.out.1.keep (fun m hm => ⟨by have := hm.1; have := HEO.out; omega, by have := hm.2; have := b9.out.size; omega⟩) (fun b j hb => b9.out.cell (p := ⟨b, j, none⟩) hb.2 (fun (e : b = g1) => by have := hb.1; have := HEO.out; omega)), hik, hks⟩, fun h => (by cases h), FN.out.2.2.2.trans (b9.out.below FN.out.2.2.2.size (fun n hn => by have := HEO.out; omega))⟩
   ·have e41 : (((p[k].toNat : Nat) : Int) != 41) = true := neq_u8 (k := 41) (by decide) h41
    by_cases h124 : p[k] = 124
    ·have e124 : (((p[k].toNat : Nat) : Int) == 124) = true := beq_u8 (k := 124) (by decide) h124
     have HXE : Hid (ex [] [] (p.data.toList.drop i0) = ex (outs ++ [.cat now]) [] (p.data.toList.drop (k + 1))) := by
      show _ = _
      rw [HX.out, HD.out, h124, ex_bar]
     clear h41 h124 HD
     have HEO : Hid (w.heap.size ≤ g1 ∧ g1 < g2 ∧ g2 < g4 ∧ g4 < B ∧ B ≤ wr.heap.size) := HE.out.ord
     obtain ⟨L8, hL8⟩ : ∃ L8, L8 = nodL 2 none_ false vn := ⟨_, rfl⟩
     have K8 : Hid (Blk wr g4 102 L8) := by rw [hL8]; exact HE.out.r8
     have HL8 : Hid (L8.length = 259 ∧ ∀ v ∈ L8, v.oneCell' = true) := by rw [hL8]; exact HE.out.l8
     have EL8 := Lib.hid hL8
     clear hL8
     obtain ⟨L7, hL7⟩ : ∃ L7, L7 = nodL 3 none_ false vo := ⟨_, rfl⟩
     have K7 : Hid (Blk wr g2 102 L7) := by rw [hL7]; exact HE.out.r7
     have HL7 : Hid (L7.length = 259 ∧ ∀ v ∈ L7, v.oneCell' = true) := by rw [hL7]; exact HE.out.l7
     have EL7 := Lib.hid hL7
     have KG7 : Hid (∀ w2 w3, Below wr.heap.size wr w2 → w2.grownBy w3 vo.ownBlock → Blk w3 g2 102 L7) := by rw [hL7]; exact fun w2 w3 h2 h3 => HE.out.g7' h2 h3
     clear hL7
     have c7 : wr.cell? ⟨g2, 258, none⟩ = some vo := HE.out.c7
     have hlo : outs.length ≤ 1000 := by omega
     go_wp2_with (first
      | ((with_reducible refine wpList_load_abs (o := ⟨_, .load 102 (.tmp 8), _, _, _, _⟩) rfl 102 _ rfl g4 0 ?_ L8 (K8.out.range) _ Tryz.underlying102 rfl 259 size50 HL8.out.1 ?_); (· rfl))
      | ((with_reducible refine wpList_buildSlice_abs (o := ⟨_, .buildSlice 100 1 #[(0, .tmp 30)], _, _, _, _⟩) rfl 100 102 _ rfl L8 ?_ 259 HL8.out.1 (by decide) (by decide) zz Tryz.underlying100 IS.out ?_); (· rfl); intro g6 w6 e6 k6 b6 s6)
      | (at_builtin; refine wpList_append_own_at _ rfl (.tmp 29) (.tmp 31) 100 rfl B 102 ii zz 259 296 Tryz.underlying100 HI.out HZ0.out HZ1.out HZ2.out HZS.out (by decide) vo outs.length xo rfl (HE.out.oo' b6.out) ⟨g6, 0, none⟩ 1 1 L8 rfl (by rw [HL8.out.1]) (fun j u hu => by have h := k6.out.range j u hu; rw [Nat.zero_add] at h; rw [Addr.add_mid, Nat.zero_add]; exact h) HL8.out.2 (by simp only [maxLen]; omega) (by omega) (by have := b6.out.size; have := HEO.out; omega) ?_; intro v7 w7 ho7 hg7 _ hor7; have O7 := Lib.hid ho7; have G7 := Lib.hid hg7; have OR7 := Lib.hid hor7; clear ho7 hg7 hor7)
      | ((with_reducible refine wpList_store_is (o := ⟨_, .store 100 (.tmp 33) (.tmp 32), _, _, _, _⟩) rfl 100 _ _ rfl rfl g2 258 v7 ?_ ?_ (own_cell' O7.out) 102 L7 (KG7.out _ _ b6.out G7.out) (by rw [HL7.out.1]; decide) size48 ?_); (· rfl); (· rfl); intro w8 E8; have K8' := Lib.hid (HE.out.bar8 EL8.out b6.out G7.out E8.out))
      | ((with_reducible refine wpList_build_abs (o := ⟨_, .build 102 _, _, _, _, _⟩) rfl 102 _ rfl [(0, .int .i64 2)] ?_ N2 B2.out ?_); (· first | (simp; done) | (simp; rfl) | (simp; exact ⟨rfl, rfl⟩)))
      | ((with_reducible refine wpList_store_abs (o := ⟨_, .store 102 (.tmp 8) (.tmp 34), _, _, _, _⟩) rfl 102 _ _ rfl rfl g4 N2 ?_ ?_ 102 L8 (K8'.out) 259 size50 HN2.out.1 HL8.out.1 HN2.out.2 ?_); (· rfl); (· rfl); intro w9 k9 b9 s9))
     have NX := Lib.hid (HE.out.bar' (by omega) EL8.out EN2.out O7.out b6.out G7.out OR7.out E8.out b9.out k9.out)
     go_roundw
     case rel => exact ⟨k + 1, _, [], _, _, _, [], by go_num, by omega, by omega, by (rw [List.length_append, List.length_singleton, List.length_nil]; omega), NX, HXE⟩
     case measure => simp [intOf]; omega
    ·have e124 : (((p[k].toNat : Nat) : Int) == 124) = false := bne_u8 (k := 124) (by decide) h124
     have KX := Lib.hid (KA.out k hik hlt)
     have HN41 := Lib.hid h41
     have HN124 := Lib.hid h124
     clear h41 h124
     go_upto_region 9 with (first
      | (go_at_call 157; (with_reducible refine (KX.out _).mono ?_); rintro e w1 ⟨C, k1, b, rfl, HC, HT, HF, b1⟩)
      | ((with_reducible refine wpList_alloc_abs (o := ⟨some 9, .alloc 102, _, _, _, _⟩) rfl 102 rfl Z ZZ.out ?_); intro g9 w2 e2 k2 b2 s2)
      | ((with_reducible refine wpList_store_abs (o := ⟨_, .store 102 (.tmp 9) (.tmp 41), _, _, _, _⟩) rfl 102 _ _ rfl rfl g9 C ?_ ?_ 102 Z (k2.out) 259 size50 HC.out.1 ZL.out HC.out.2 ?_); (· rfl); (· rfl); intro w3 k3 b3 s3))
     have B13 : Hid (Below wr.heap.size wr w3) := b1.out.trans ((b2.out.mono b1.out.size).trans (b3.out.below (by have := b1.out.size; have := b2.out.size; omega) (fun n hn => by have := b1.out.size; have := e2.out; omega)))
     have HE3 := Lib.hid (HE.out.below B13.out)
     have GZ : Hid (wr.heap.size ≤ w1.heap.size ∧ w1.heap.size = g9 ∧ g9 < w3.heap.size) := ⟨b1.out.size, e2.out, k3.out.lt⟩
     clear e41 e124
     cases b with
     | false =>
      have HN : Hid (ex [] [] (p.data.toList.drop i0) = none) := by
       show _ = _
       rw [HX.out, HD.out]
       refine ex_none HN41.out HN124.out ?_
       rw [← HD.out]
       exact HF.out rfl
      clear HE HT HF HX HD
      revert HE3
      generalize w3 = wr at *
      intro HE
      have HEO : Hid (w.heap.size ≤ g1 ∧ g1 < g2 ∧ g2 < g4 ∧ g4 < B ∧ B ≤ wr.heap.size) := HE.out.ord
      obtain ⟨L7, hL7⟩ : ∃ L7, L7 = nodL 3 none_ false vo := ⟨_, rfl⟩
      have K7 : Hid (Blk wr g2 102 L7) := by rw [hL7]; exact HE.out.r7
      have HL7 : Hid (L7.length = 259 ∧ ∀ v ∈ L7, v.oneCell' = true) := by rw [hL7]; exact HE.out.l7
      have EL7 := Lib.hid hL7
      have KG7 : Hid (∀ w2 w3, Below wr.heap.size wr w2 → w2.grownBy w3 vo.ownBlock → Blk w3 g2 102 L7) := by rw [hL7]; exact fun w2 w3 h2 h3 => HE.out.g7' h2 h3
      clear hL7
      go_wp2_with (first
       | ((with_reducible refine wpList_load_abs (o := ⟨_, .load 102 (.tmp 7), _, _, _, _⟩) rfl 102 _ rfl g2 0 ?_ L7 (K7.out.range) _ Tryz.underlying102 rfl 259 size50 HL7.out.1 ?_); (· rfl))
       | ((with_reducible refine wpList_store_abs (o := ⟨_, .store 102 (.tmp 4) (.tmp 46), _, _, _, _⟩) rfl 102 _ _ rfl rfl g1 L7 ?_ ?_ 102 Z (HE.out.r1) 259 size50 HL7.out.1 ZL.out HL7.out.2 ?_); (· rfl); (· rfl); intro w9 k9 b9 s9))
      refine bodyPost_ret (res_node3 rfl rfl rfl rfl k9.out HL7.out.1) rfl ?_
      exact ⟨L7, k, false, rfl, HL7.out, fun h => (by cases h), fun _ => HN.out, HE.out.bl.trans (b9.out.below HE.out.bl.size (fun n hn => by have := HEO.out; omega))⟩
     | true =>
      obtain ⟨n, hax, hRC, hk1, hk1s⟩ := HT.out rfl
      have HAX : Hid (ax (p[k] :: p.data.toList.drop (k + 1)) = some (n, p.data.toList.drop k1)) := by
       show _ = _
       rw [← HD.out]
       exact hax
      have RC : Hid (ReV w3 (Fresh wr w1) C n) := hRC.keep (fun _ h => h) (fun b j hb => (b3.out.cell (p := ⟨b, j, none⟩) (by have := hb.2; have := b2.out.size; show b < _; omega) (fun (e : b = g9) => by have := hb.2; have := e2.out; omega)).trans (b2.out.cell (p := ⟨b, j, none⟩) hb.2))
      have HK1 : Hid (i0 ≤ k1 ∧ k1 ≤ p.size ∧ outs.length + now.length + 1 ≤ k1 ∧ k < k1) := ⟨by omega, hk1s, by omega, hk1⟩
      obtain ⟨m, hm⟩ := bool_is (RepAt p k1)
      have Hm := Lib.hid hm
      have hk10 : (0 : Int) ≤ (k1 : Int) := Int.natCast_nonneg _
      clear hax hRC HT HF hm b1 e2 k2 b2 s2 b3 s3
      go_upto_region 12 with fail
      go_cut [70] (fun c wx => c = .bool m ∧ wx = w3)
      case first =>
       by_cases hq : k1 < p.size
       ·have hq' : (k1 : Int) < (p.size : Int) := by omega
        by_cases h1 : p[k1] = 42
        ·have f1 : (((p[k1].toNat : Nat) : Int) == 42) = true := beq_u8 (k := 42) (by decide) h1
         obtain rfl : m = true := Hm.out.2 ⟨hq, rep_is.2 (.inl h1)⟩
         clear h1
         go_wp2_with fail
         go_meet
         case rel => exact ⟨rfl, rfl⟩
        ·have f1 : (((p[k1].toNat : Nat) : Int) == 42) = false := bne_u8 (k := 42) (by decide) h1
         by_cases h2 : p[k1] = 43
         ·have f2 : (((p[k1].toNat : Nat) : Int) == 43) = true := beq_u8 (k := 43) (by decide) h2
          obtain rfl : m = true := Hm.out.2 ⟨hq, rep_is.2 (.inr (.inl h2))⟩
          clear h1 h2
          go_wp2_with fail
          go_meet
          case rel => exact ⟨rfl, rfl⟩
         ·have f2 : (((p[k1].toNat : Nat) : Int) == 43) = false := bne_u8 (k := 43) (by decide) h2
          by_cases h3 : p[k1] = 63
          ·have f3 : (((p[k1].toNat : Nat) : Int) == 63) = true := beq_u8 (k := 63) (by decide) h3
           obtain rfl : m = true := Hm.out.2 ⟨hq, rep_is.2 (.inr (.inr h3))⟩
           clear h1 h2 h3
           go_wp2_with fail
           go_meet
           case rel => exact ⟨rfl, rfl⟩
          ·have f3 : (((p[k1].toNat : Nat) : Int) == 63) = false := bne_u8 (k := 63) (by decide) h3
           obtain rfl : m = false := by
            cases m with
            | false => rfl
            | true =>
             obtain ⟨_, h⟩ := Hm.out.1 rfl
             rcases rep_is.1 h with h | h | h
             ·exact absurd h h1
             ·exact absurd h h2
             ·exact absurd h h3
           clear h1 h2 h3
           go_wp2_with fail
           go_meet
           case rel => exact ⟨rfl, rfl⟩
       ·have hq' : ¬ ((k1 : Int) < (p.size : Int)) := by omega
        obtain rfl : m = false := by
         cases m with
         | false => rfl
         | true => obtain ⟨h, _⟩ := Hm.out.1 rfl; exact absurd h hq
        go_wp2_with fail
        go_meet
        case rel => exact ⟨rfl, rfl⟩
      case rest =>
       obtain ⟨rfl, rfl⟩ := hcut
       cases hmm : m with
       | false =>
        have HXN : Hid (ex [] [] (p.data.toList.drop i0) = ex outs (now ++ [n]) (p.data.toList.drop k1)) := by
         show _ = _
         rw [HX.out, HD.out]
         exact ex_step HN41.out HN124.out HAX.out (post_no n (fun h => by have := Hm.out.2 h; rw [hmm] at this; cases this))
        have HDR : Hid (ReV wc (TX B wc vo vn) C n) := HE.out.node (w1 := wc) RC.out (fun m hm => ⟨hm.1, by have := hm.2; have := GZ.out; omega⟩) (fun _ _ _ => rfl)
        obtain ⟨ha1, ha2, ha3, ha4⟩ := HK1.out
        have K9 := k3
        clear HE k3 RC HX HD HAX B13 HN41 HN124 Hm
        have HE := HE3
        have HDL := HC
        clear HE3 HC
        generalize wc = wr at *
        generalize C = D at *
        have HEO : Hid (w.heap.size ≤ g1 ∧ g1 < g2 ∧ g2 < g4 ∧ g4 < B ∧ B ≤ wr.heap.size) := HE.out.ord
        obtain ⟨L8, hL8⟩ : ∃ L8, L8 = nodL 2 none_ false vn := ⟨_, rfl⟩
        have K8 : Hid (Blk wr g4 102 L8) := by rw [hL8]; exact HE.out.r8
        have HL8 : Hid (L8.length = 259 ∧ ∀ v ∈ L8, v.oneCell' = true) := by rw [hL8]; exact HE.out.l8
        have EL8 := Lib.hid hL8
        clear hL8
        have KG8 : Hid (∀ w2 w3, Below wr.heap.size wr w2 → w2.grownBy w3 vn.ownBlock → Blk w3 g4 102 L8) := by rw [EL8.out]; exact fun w2 w3 h2 h3 => HE.out.g8' h2 h3
        have c8 : wr.cell? ⟨g4, 258, none⟩ = some vn := HE.out.c8
        have hlo : now.length ≤ 1000 := by omega
        go_wp2_with (first
         | ((with_reducible refine wpList_load_abs (o := ⟨_, .load 102 (.tmp 9), _, _, _, _⟩) rfl 102 _ rfl g9 0 ?_ D (K9.out.range) _ Tryz.underlying102 rfl 259 size50 HDL.out.1 ?_); (· rfl))
         | ((with_reducible refine wpList_buildSlice_abs (o := ⟨_, .buildSlice 100 1 #[(0, .tmp 104)], _, _, _, _⟩) rfl 100 102 _ rfl D ?_ 259 HDL.out.1 (by decide) (by decide) zz Tryz.underlying100 IS.out ?_); (· rfl); intro g6 w6 e6 k6 b6 s6)
         | (at_builtin; refine wpList_append_own_at _ rfl (.tmp 103) (.tmp 105) 100 rfl B 102 ii zz 259 296 Tryz.underlying100 HI.out HZ0.out HZ1.out HZ2.out HZS.out (by decide) vn now.length xn rfl (HE.out.on' b6.out) ⟨g6, 0, none⟩ 1 1 D rfl (by rw [HDL.out.1]) (fun j u hu => by have h := k6.out.range j u hu; rw [Nat.zero_add] at h; rw [Addr.add_mid, Nat.zero_add]; exact h) HDL.out.2 (by simp only [maxLen]; omega) (by omega) (by have := b6.out.size; have := HEO.out; omega) ?_; intro v7 w7 ho7 hg7 _ hor7; have O7 := Lib.hid ho7; have G7 := Lib.hid hg7; have OR7 := Lib.hid hor7; clear ho7 hg7 hor7)
         | ((with_reducible refine wpList_store_is (o := ⟨_, .store 100 (.tmp 107) (.tmp 106), _, _, _, _⟩) rfl 100 _ _ rfl rfl g4 258 v7 ?_ ?_ (own_cell' O7.out) 102 L8 (KG8.out _ _ b6.out G7.out) (by rw [HL8.out.1]; decide) size48 ?_); (· rfl); (· rfl); intro w8 E8))
        have NX := Lib.hid (HE.out.grow' HDR.out O7.out b6.out G7.out OR7.out E8.out)
        go_roundw
        case rel => exact ⟨k1, outs, _, vo, _, xo, _, by go_num, by omega, by omega, by (rw [List.length_append, List.length_singleton]; omega), NX, HXN⟩
        case measure => simp [intOf]; omega
       | true =>
        obtain ⟨hq, hr⟩ := Hm.out.1 hmm
        have hq' : (k1 : Int) < (p.size : Int) := by omega
        have HR := Lib.hid hr
        obtain ⟨m2, hm2⟩ := bool_is (RepAt p (k1 + 1))
        have Hm2 := Lib.hid hm2
        obtain ⟨ha1, ha2, ha3, ha4⟩ := HK1.out
        clear hr hm2
        go_upto_region 13 with fail
        refine wp_region_still_tail 4 (by kernel_rfl) (by kernel_rfl) ?_
        simp only [List.take_succ_cons, List.take_zero, List.drop_succ_cons, List.drop_zero]
        refine wpStill_load_abs (o := ⟨_, .load 102 (.tmp 9), _, _, _, _⟩) rfl 102 _ rfl g9 0 ?_ C (show World.rangeAt wc.drew g9 0 C from (Blk.drew k3.out).range) _ Tryz.underlying102 rfl 259 size50 HC.out.1 ?_
        ·rfl
        repeat still_step
        refine wpStill_nil ?_
        change wpList _ _ _ _ _ wc.drew
        have KD9 : Hid (Blk wc.drew g9 102 C) := k3.out.drew
        have RCD : Hid (ReV wc.drew (Fresh wr w1) C n) := ReV.keep (w := wc) (w' := wc.drew) (fun _ h => h) (fun _ _ _ => rfl) RC.out
        have BD : Hid (Below wr.heap.size wr wc.drew) := B13.out.drew
        have GD : Hid (wr.heap.size ≤ w1.heap.size ∧ w1.heap.size = g9 ∧ g9 < wc.drew.heap.size) := GZ.out
        clear k3 RC B13 GZ HE3
        generalize wc.drew = wd at *
        go_upto_region 15 with (first
         | (go_at_call 158; (with_reducible refine (repeated_any (Fresh wr w1) C n p[k1] HR.out _ RCD.out ?_).mono ?_); (· intro m hm; have := hm.2; have := GD.out; omega); rintro e w5 ⟨D, rfl, HDR5, b5⟩; have HDL := Lib.hid HDR5.out.len)
         | ((with_reducible refine wpList_store_abs (o := ⟨_, .store 102 (.tmp 9) (.tmp 75), _, _, _, _⟩) rfl 102 _ _ rfl rfl g9 D ?_ ?_ 102 C (KD9.out.below b5.out KD9.out.lt) 259 size50 HDL.out.1 HC.out.1 HDL.out.2 ?_); (· rfl); (· rfl); intro w6 k6 b6 s6))
        have BB6 : Hid (Below wr.heap.size wr w6) := BD.out.trans ((b5.out.mono (by have := GD.out; omega)).trans (b6.out.below (by have := GD.out; have := b5.out.size; omega) (fun n hn => by have := GD.out; omega)))
        have HE6 := Lib.hid (HE.out.below BB6.out)
        have HDR : Hid (ReV w6 (TX B w6 vo vn) D (repRe n p[k1])) := HE.out.node (w1 := w5) HDR5.out (fun m hm => (by
         have h1 := GD.out
         have h2 := b5.out.size
         have h3 := b6.out.size
         rcases hm with hm | hm
         ·exact ⟨hm.1, by have := hm.2; omega⟩
         ·exact ⟨by have := hm.1; omega, by have := hm.2; omega⟩)) (fun b j hb => b6.out.cell (p := ⟨b, j, none⟩) (by
         have h1 := GD.out
         have h2 := b5.out.size
         show b < _
         rcases hb with hb | hb
         ·have := hb.2; omega
         ·have := hb.2; omega) (fun (e : b = g9) => by
         have h1 := GD.out
         rcases hb with hb | hb
         ·have := hb.2; omega
         ·have := hb.1; omega))
        have K9 := k6
        clear HE BB6 HDR5 b5 b6 s6 k6 GD BD RCD KD9 HC
        go_cut [99] (fun c wx => c = .bool m2 ∧ wx = w6)
        case first =>
         by_cases hq : k1 + 1 < p.size
         ·have hq' : (k1 : Int) + 1 < (p.size : Int) := by omega
          by_cases h1 : p[k1 + 1] = 42
          ·have f1 : (((p[k1 + 1].toNat : Nat) : Int) == 42) = true := beq_u8 (k := 42) (by decide) h1
           obtain rfl : m2 = true := Hm2.out.2 ⟨hq, rep_is.2 (.inl h1)⟩
           clear h1
           go_wp2_with fail
           go_meet
           case rel => exact ⟨rfl, rfl⟩
          ·have f1 : (((p[k1 + 1].toNat : Nat) : Int) == 42) = false := bne_u8 (k := 42) (by decide) h1
           by_cases h2 : p[k1 + 1] = 43
           ·have f2 : (((p[k1 + 1].toNat : Nat) : Int) == 43) = true := beq_u8 (k := 43) (by decide) h2
            obtain rfl : m2 = true := Hm2.out.2 ⟨hq, rep_is.2 (.inr (.inl h2))⟩
            clear h1 h2
            go_wp2_with fail
            go_meet
            case rel => exact ⟨rfl, rfl⟩
           ·have f2 : (((p[k1 + 1].toNat : Nat) : Int) == 43) = false := bne_u8 (k := 43) (by decide) h2
            by_cases h3 : p[k1 + 1] = 63
            ·have f3 : (((p[k1 + 1].toNat : Nat) : Int) == 63) = true := beq_u8 (k := 63) (by decide) h3
             obtain rfl : m2 = true := Hm2.out.2 ⟨hq, rep_is.2 (.inr (.inr h3))⟩
             clear h1 h2 h3
             go_wp2_with fail
             go_meet
             case rel => exact ⟨rfl, rfl⟩
            ·have f3 : (((p[k1 + 1].toNat : Nat) : Int) == 63) = false := bne_u8 (k := 63) (by decide) h3
             obtain rfl : m2 = false := by
              cases m2 with
              | false => rfl
              | true =>
               obtain ⟨_, h⟩ := Hm2.out.1 rfl
               rcases rep_is.1 h with h | h | h
               ·exact absurd h h1
               ·exact absurd h h2
               ·exact absurd h h3
             clear h1 h2 h3
             go_wp2_with fail
             go_meet
             case rel => exact ⟨rfl, rfl⟩
         ·have hq' : ¬ ((k1 : Int) + 1 < (p.size : Int)) := by omega
          obtain rfl : m2 = false := by
           cases m2 with
           | false => rfl
           | true => obtain ⟨h, _⟩ := Hm2.out.1 rfl; exact absurd h hq
          go_wp2_with fail
          go_meet
          case rel => exact ⟨rfl, rfl⟩
        case rest =>
         obtain ⟨rfl, rfl⟩ := hcut
         have HE := HE6
         clear HE6
         generalize wc = wr at *
         cases hmm2 : m2 with
         | false =>
          have HXN : Hid (ex [] [] (p.data.toList.drop i0) = ex outs (now ++ [repRe n p[k1]]) (p.data.toList.drop (k1 + 1))) := by
           show _ = _
           rw [HX.out, HD.out]
           exact ex_step HN41.out HN124.out HAX.out (post_one n hq HR.out (fun h => by have := Hm2.out.2 h; rw [hmm2] at this; cases this))
          clear HX HD HAX HN41 HN124 Hm Hm2
          have HEO : Hid (w.heap.size ≤ g1 ∧ g1 < g2 ∧ g2 < g4 ∧ g4 < B ∧ B ≤ wr.heap.size) := HE.out.ord
          obtain ⟨L8, hL8⟩ : ∃ L8, L8 = nodL 2 none_ false vn := ⟨_, rfl⟩
          have K8 : Hid (Blk wr g4 102 L8) := by rw [hL8]; exact HE.out.r8
          have HL8 : Hid (L8.length = 259 ∧ ∀ v ∈ L8, v.oneCell' = true) := by rw [hL8]; exact HE.out.l8
          have EL8 := Lib.hid hL8
          clear hL8
          have KG8 : Hid (∀ w2 w3, Below wr.heap.size wr w2 → w2.grownBy w3 vn.ownBlock → Blk w3 g4 102 L8) := by rw [EL8.out]; exact fun w2 w3 h2 h3 => HE.out.g8' h2 h3
          have c8 : wr.cell? ⟨g4, 258, none⟩ = some vn := HE.out.c8
          have hlo : now.length ≤ 1000 := by omega
          go_wp2_with (first
           | ((with_reducible refine wpList_load_abs (o := ⟨_, .load 102 (.tmp 9), _, _, _, _⟩) rfl 102 _ rfl g9 0 ?_ D (K9.out.range) _ Tryz.underlying102 rfl 259 size50 HDL.out.1 ?_); (· rfl))
           | ((with_reducible refine wpList_buildSlice_abs (o := ⟨_, .buildSlice 100 1 #[(0, .tmp 104)], _, _, _, _⟩) rfl 100 102 _ rfl D ?_ 259 HDL.out.1 (by decide) (by decide) zz Tryz.underlying100 IS.out ?_); (· rfl); intro g6 w6 e6 k6 b6 s6)
           | (at_builtin; refine wpList_append_own_at _ rfl (.tmp 103) (.tmp 105) 100 rfl B 102 ii zz 259 296 Tryz.underlying100 HI.out HZ0.out HZ1.out HZ2.out HZS.out (by decide) vn now.length xn rfl (HE.out.on' b6.out) ⟨g6, 0, none⟩ 1 1 D rfl (by rw [HDL.out.1]) (fun j u hu => by have h := k6.out.range j u hu; rw [Nat.zero_add] at h; rw [Addr.add_mid, Nat.zero_add]; exact h) HDL.out.2 (by simp only [maxLen]; omega) (by omega) (by have := b6.out.size; have := HEO.out; omega) ?_; intro v7 w7 ho7 hg7 _ hor7; have O7 := Lib.hid ho7; have G7 := Lib.hid hg7; have OR7 := Lib.hid hor7; clear ho7 hg7 hor7)
           | ((with_reducible refine wpList_store_is (o := ⟨_, .store 100 (.tmp 107) (.tmp 106), _, _, _, _⟩) rfl 100 _ _ rfl rfl g4 258 v7 ?_ ?_ (own_cell' O7.out) 102 L8 (KG8.out _ _ b6.out G7.out) (by rw [HL8.out.1]; decide) size48 ?_); (· rfl); (· rfl); intro w8 E8))
          have NX := Lib.hid (HE.out.grow' HDR.out O7.out b6.out G7.out OR7.out E8.out)
          go_roundw
          case rel => exact ⟨(k1 + 1), outs, _, vo, _, xo, _, by go_num, by omega, by omega, by (rw [List.length_append, List.length_singleton]; omega), NX, HXN⟩
          case measure => simp [intOf]; omega
         | true =>
          have HN : Hid (ex [] [] (p.data.toList.drop i0) = none) := by
           show _ = _
           rw [HX.out, HD.out]
           exact ex_post HN41.out HN124.out HAX.out (post_two n hq HR.out (Hm2.out.1 hmm2))
          clear HX HD HAX HN41 HN124 Hm Hm2
          have HEO : Hid (w.heap.size ≤ g1 ∧ g1 < g2 ∧ g2 < g4 ∧ g4 < B ∧ B ≤ wr.heap.size) := HE.out.ord
          obtain ⟨L7, hL7⟩ : ∃ L7, L7 = nodL 3 none_ false vo := ⟨_, rfl⟩
          have K7 : Hid (Blk wr g2 102 L7) := by rw [hL7]; exact HE.out.r7
          have HL7 : Hid (L7.length = 259 ∧ ∀ v ∈ L7, v.oneCell' = true) := by rw [hL7]; exact HE.out.l7
          have EL7 := Lib.hid hL7
          have KG7 : Hid (∀ w2 w3, Below wr.heap.size wr w2 → w2.grownBy w3 vo.ownBlock → Blk w3 g2 102 L7) := by rw [hL7]; exact fun w2 w3 h2 h3 => HE.out.g7' h2 h3
          clear hL7
          go_wp2_with (first
           | ((with_reducible refine wpList_load_abs (o := ⟨_, .load 102 (.tmp 7), _, _, _, _⟩) rfl 102 _ rfl g2 0 ?_ L7 (K7.out.range) _ Tryz.underlying102 rfl 259 size50 HL7.out.1 ?_); (· rfl))
           | ((with_reducible refine wpList_store_abs (o := ⟨_, .store 102 (.tmp 4) (.tmp 100), _, _, _, _⟩) rfl 102 _ _ rfl rfl g1 L7 ?_ ?_ 102 Z (HE.out.r1) 259 size50 HL7.out.1 ZL.out HL7.out.2 ?_); (· rfl); (· rfl); intro w9 k9 b9 s9))
          refine bodyPost_ret (res_node3 rfl rfl rfl rfl k9.out HL7.out.1) rfl ?_
          exact ⟨L7, k1 + 1, false, rfl, HL7.out, fun h => (by cases h), fun _ => HN.out, HE.out.bl.trans (b9.out.below HE.out.bl.size (fun n hn => by have := HEO.out; omega))⟩
  ·have hlt' : ¬ ((k : Int) < (p.size : Int)) := by omega
   have HXE : Hid (ex [] [] (p.data.toList.drop i0) = some (.alt (outs ++ [.cat now]), p.data.toList.drop k)) := by
    show _ = _
    rw [HX.out, drop_end (by omega), ex_nil]
   have HEO : Hid (w.heap.size ≤ g1 ∧ g1 < g2 ∧ g2 < g4 ∧ g4 < B ∧ B ≤ wr.heap.size) := HE.out.ord
   obtain ⟨L8, hL8⟩ : ∃ L8, L8 = nodL 2 none_ false vn := ⟨_, rfl⟩
   have K8 : Hid (Blk wr g4 102 L8) := by rw [hL8]; exact HE.out.r8
   have HL8 : Hid (L8.length = 259 ∧ ∀ v ∈ L8, v.oneCell' = true) := by rw [hL8]; exact HE.out.l8
   have EL8 := Lib.hid hL8
   clear hL8
   obtain ⟨L7, hL7⟩ : ∃ L7, L7 = nodL 3 none_ false vo := ⟨_, rfl⟩
   have K7 : Hid (Blk wr g2 102 L7) := by rw [hL7]; exact HE.out.r7
   have HL7 : Hid (L7.length = 259 ∧ ∀ v ∈ L7, v.oneCell' = true) := by rw [hL7]; exact HE.out.l7
   have EL7 := Lib.hid hL7
   have KG7 : Hid (∀ w2 w3, Below wr.heap.size wr w2 → w2.grownBy w3 vo.ownBlock → Blk w3 g2 102 L7) := by rw [hL7]; exact fun w2 w3 h2 h3 => HE.out.g7' h2 h3
   clear hL7
   have c7 : wr.cell? ⟨g2, 258, none⟩ = some vo := HE.out.c7
   have hlo : outs.length ≤ 1000 := by omega
   go_wp2_with (first
    | ((with_reducible refine wpList_load_abs (o := ⟨_, .load 102 (.tmp 8), _, _, _, _⟩) rfl 102 _ rfl g4 0 ?_ L8 (K8.out.range) _ Tryz.underlying102 rfl 259 size50 HL8.out.1 ?_); (· rfl))
    | ((with_reducible refine wpList_buildSlice_abs (o := ⟨_, .buildSlice 100 1 #[(0, .tmp 110)], _, _, _, _⟩) rfl 100 102 _ rfl L8 ?_ 259 HL8.out.1 (by decide) (by decide) zz Tryz.underlying100 IS.out ?_); (· rfl); intro g6 w6 e6 k6 b6 s6)
    | (at_builtin; refine wpList_append_own_at _ rfl (.tmp 109) (.tmp 111) 100 rfl B 102 ii zz 259 296 Tryz.underlying100 HI.out HZ0.out HZ1.out HZ2.out HZS.out (by decide) vo outs.length xo rfl (HE.out.oo' b6.out) ⟨g6, 0, none⟩ 1 1 L8 rfl (by rw [HL8.out.1]) (fun j u hu => by have h := k6.out.range j u hu; rw [Nat.zero_add] at h; rw [Addr.add_mid, Nat.zero_add]; exact h) HL8.out.2 (by simp only [maxLen]; omega) (by omega) (by have := b6.out.size; have := HEO.out; omega) ?_; intro v7 w7 ho7 hg7 _ hor7; have O7 := Lib.hid ho7; have G7 := Lib.hid hg7; have OR7 := Lib.hid hor7; clear ho7 hg7 hor7)
    | ((with_reducible refine wpList_store_is (o := ⟨_, .store 100 (.tmp 113) (.tmp 112), _, _, _, _⟩) rfl 100 _ _ rfl rfl g2 258 v7 ?_ ?_ (own_cell' O7.out) 102 L7 (KG7.out _ _ b6.out G7.out) (by rw [HL7.out.1]; decide) size48 ?_); (· rfl); (· rfl); intro w8 E8; obtain ⟨L9, hL9⟩ : ∃ L9, L9 = nodL 3 none_ false v7 := ⟨_, rfl⟩; have FN := Lib.hid (HE.out.last' (by omega) hlo EL8.out O7.out b6.out G7.out OR7.out E8.out hL9); clear hL9; have HL9 := Lib.hid FN.out.1.len)
    | ((with_reducible refine wpList_load_abs (o := ⟨_, .load 102 (.tmp 7), _, _, _, _⟩) rfl 102 _ rfl g2 0 ?_ L9 (FN.out.2.1.range) _ Tryz.underlying102 rfl 259 size50 HL9.out.1 ?_); (· rfl))
    | ((with_reducible refine wpList_store_abs (o := ⟨_, .store 102 (.tmp 4) (.tmp 114), _, _, _, _⟩) rfl 102 _ _ rfl rfl g1 L9 ?_ ?_ 102 Z (FN.out.2.2.1) 259 size50 HL9.out.1 ZL.out HL9.out.2 ?_); (· rfl); (· rfl); intro w9 k9 b9 s9))
   refine bodyPost_ret (res_node3 rfl rfl rfl rfl k9.out HL9.out.1) rfl ?_
   exact ⟨L9, k, true, rfl, HL9.out, fun _ => ⟨_, HXE.out, FN.out.1.keep (fun m hm => ⟨by have := hm.1; have := HEO.out; omega, by have := hm.2; have := b9.out.size; omega⟩) (fun b j hb => b9.out.cell (p := ⟨b, j, none⟩) hb.2 (fun (e : b = g1) => by have := hb.1; have := HEO.out; omega)), hik, hks⟩, fun h => (by cases h), FN.out.2.2.2.trans (b9.out.below FN.out.2.2.2.size (fun n hn => by have := HEO.out; omega))⟩
end Go.Proofs.YtdeppcddknakjaaGreatDoor.Rx
