/- Layer 6: awake. -/
import Derived.Lib.QuietBelow
import Derived.BigQuiet
import Derived.Test.YtilfggnhaehbcaaSC
set_option linter.unusedVariables false
set_option linter.unusedSimpArgs false
namespace Go.Proofs.Ytilfggnhaehbcaa.Rx
open Go.RowKit
set_option maxHeartbeats 4000000 in
set_option maxRecDepth 100000 in
theorem awake_any (w : World) : Calls Try.prog 14 #[] w (EmpP true w) := by
  have K25 := Lib.hid (fun V => aw_find V)
  have K23 := Lib.hid (fun V => aw_match V)
  have K23b := Lib.hid (fun V => aw_match2 V)
  have K15 := Lib.hid (fun V => aw_prefix V)
  have K19 := Lib.hid (fun V => aw_quote V)
  have K17 := Lib.hid (fun V => aw_check V)
  have mixed : Try.prog.follows .mixedOrders = true := by kernel_rfl
  go_enter Try.func14, Try.ntmps14
  go_wp2_with (first
    | (go_at_call 25; (with_reducible refine (K25.out _).mono ?_); rintro e w1 ⟨rfl, b1⟩)
    | (go_at_call 15; (with_reducible refine (K15.out _).mono ?_); rintro e w2 ⟨rfl, b2⟩))
  have k1 : Hid (Blk (w1.alloc (.cells #[.int .i64 1, .int .i64 3] 32)) w1.heap.size 32 [.int .i64 1, .int .i64 3]) := Blk.new w1 32 _
  have B1 : Hid (Below w.heap.size w (w1.alloc (.cells #[.int .i64 1, .int .i64 3] 32))) := b1.alloc b1.size _
  have c0 : w2.cell? ⟨w1.heap.size, 0, none⟩ = some (.int .i64 1) := (k1.out.below b2 (by rw [World.size_alloc]; omega)).cell 0
  have c1 : w2.cell? ⟨w1.heap.size, 1, none⟩ = some (.int .i64 3) := (k1.out.below b2 (by rw [World.size_alloc]; omega)).cell 1
  have B2 : Hid (Below w.heap.size w w2) := B1.out.trans (b2.mono B1.out.size)
  generalize w1.heap.size = g at *
  clear b1 b2 k1 B1 K25 K15
  have hg : g < w2.heap.size := World.block_lt_of_cell? w2 _ c0
  go_wp2_with (first
    | (go_at_call 23; (with_reducible refine (K23.out _).mono ?_); rintro e w3 ⟨rfl, b3⟩; have B3 : Hid (Below w.heap.size w w3) := B2.out.trans (b3.mono B2.out.size); have e0 : w3.cell? ⟨g, 0, none⟩ = some (.int .i64 1) := (b3.cell (p := ⟨g, 0, none⟩) hg).trans c0; have e1 : w3.cell? ⟨g, 1, none⟩ = some (.int .i64 3) := (b3.cell (p := ⟨g, 1, none⟩) hg).trans c1; have hg3 : g < w3.heap.size := World.block_lt_of_cell? w3 _ e0; clear b3)
    | (go_at_call 23; (with_reducible refine (K23b.out _).mono ?_); rintro e w4 ⟨rfl, b4⟩; have B4 : Hid (Below w.heap.size w w4) := B3.out.trans (b4.mono B3.out.size); have d0 : w4.cell? ⟨g, 0, none⟩ = some (.int .i64 1) := (b4.cell (p := ⟨g, 0, none⟩) hg3).trans e0; have d1 : w4.cell? ⟨g, 1, none⟩ = some (.int .i64 3) := (b4.cell (p := ⟨g, 1, none⟩) hg3).trans e1; clear b4)
    | (go_at_call 19; (with_reducible refine (K19.out _).mono ?_); rintro e w5 ⟨rfl, b5⟩)
    | (go_at_call 17; (with_reducible refine (K17.out _).mono ?_); rintro e w6 ⟨rfl, b6⟩))
  go_ret
  exact ⟨rfl, B4.out.trans ((b5.trans (b6.mono b5.size)).mono B4.out.size)⟩
theorem bool_of (P : Prop) : ∃ m : Bool, (m = true ↔ P) := by
  by_cases h : P
  · exact ⟨true, by simp [h]⟩
  · exact ⟨false, by simp [h]⟩
theorem match_is {p s : ByteArray} (hp : p.size ≤ maxLen) (hs : s.size ≤ 1000000) {m : Bool} (hm : m = true ↔ MatS p.data.toList s.data.toList) (V : World) : Calls Try.prog 23 #[.string p, .string s] V (EmpP m V) :=
  (match_any p s hp hs V).mono fun e w' ⟨b, he, hb, hl⟩ => ⟨by rw [he, show b = m from Bool.eq_iff_iff.2 (hb.out.trans hm.symm)], hl⟩
theorem match_exists (p s : ByteArray) (hp : p.size ≤ maxLen) (hs : s.size ≤ 1000000) : ∃ m : Bool, (m = true ↔ MatS p.data.toList s.data.toList) ∧ ∀ V, Calls Try.prog 23 #[.string p, .string s] V (EmpP m V) := by
  obtain ⟨m, hm⟩ := bool_of (MatS p.data.toList s.data.toList)
  exact ⟨m, hm, match_is hp hs hm⟩
def ChkP (c : Int) (w : World) (e : Ending) (w' : World) : Prop := e = .returned (.int .i64 c) ∧ Hid (Below w.heap.size w w')
theorem check_is {p : ByteArray} (hp : p.size ≤ maxLen) {c : Int} (hc : check p.data.toList = c) (V : World) : Calls Try.prog 17 #[.string p] V (ChkP c V) :=
  (check_any p hp V).mono fun e w' ⟨he, hl⟩ => ⟨by rw [he, hc], hl⟩
end Go.Proofs.Ytilfggnhaehbcaa.Rx
