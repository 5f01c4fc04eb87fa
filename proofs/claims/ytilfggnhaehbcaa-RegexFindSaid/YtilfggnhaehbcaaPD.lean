/- Layer 6: literals and escapes of the program. -/
import Derived.Test.YtilfggnhaehbcaaK3
import Derived.Test.YtilfggnhaehbcaaPC
set_option linter.unusedVariables false
set_option linter.unusedSimpArgs false
namespace Go.Proofs.Ytilfggnhaehbcaa.Rx
open Go.RowKit
/-- The cells of a factor's zero value. -/
def Z47 : List Value := facL none_ (.slice none 0 0) false 0 0
theorem Z47_len : Z47.length = 260 := facL_len _ _ _ _ _
theorem zero47' : (Try.prog.info? 47).map (·.zero) = some (some (.agg Z47.toArray)) := zero47
theorem facL_set (f : UInt8 → Bool) (tail : List Value) : clsC f ++ tail = clsC f ++ tail := rfl
def LitPost (c : UInt8) (w : World) (e : Ending) (w' : World) : Prop := e = .returned (.agg (facL (fun x => x == c) (.slice none 0 0) true c 0).toArray) ∧ Hid (Below w.heap.size w w')
set_option maxHeartbeats 2000000 in
set_option maxRecDepth 100000 in
theorem literal_any (c : UInt8) (w : World) : Calls Try.prog 79 #[.int .u8 (c.toNat : Int)] w (LitPost c w) := by
  obtain ⟨L1, hL1⟩ : ∃ L1, L1 = clsC none_ ++ [Value.slice none 0 0, Value.bool true, Value.int .u8 c.toNat, Value.int .u8 0] := ⟨_, rfl⟩
  obtain ⟨L2, hL2⟩ : ∃ L2, L2 = facL (fun x => x == c) (.slice none 0 0) true c 0 := ⟨_, rfl⟩
  have BL : Hid (Try.prog.built 47 [(2, .bool true), (3, .int .u8 (c.toNat : Int))] = some L1.toArray) := by rw [hL1]; exact built_lit _
  have H1 : Hid (L1.length = 260) := by rw [hL1, List.length_append, clsC_len]; rfl
  have H2 : Hid (L2.length = 260) := by rw [hL2]; exact facL_len _ _ _ _ _
  have O1 : Hid (∀ v ∈ L1, v.oneCell' = true) := by
    rw [hL1]
    have := facL_one none_ (inner := .slice none 0 0) rfl true c 0
    exact this
  have O2 : Hid (∀ v ∈ L2, v.oneCell' = true) := by rw [hL2]; exact facL_one _ rfl _ _ _
  have CA : Hid (∀ g w, Blk w g 47 L1 → Calls Try.prog 83 #[.pointer (some ⟨g, 0, none⟩), .int .u8 (c.toNat : Int), .int .u8 (c.toNat : Int)] w fun e w' => e = .returned (.tuple #[]) ∧ Hid (Blk w' g 47 L2) ∧ Hid (But (· = g) w w') ∧ Hid (w'.heap.size = w.heap.size)) := fun g w h => by
    rw [hL1] at h
    refine (add_any g 47 none_ _ c c w h).mono fun e w' h => ⟨h.1, ?_, h.2.2.1, h.2.2.2⟩
    have h2 := h.2.1
    rw [clsC_ext (lit_f c)] at h2
    rw [hL2]
    exact h2
  have ZL := Lib.hid Z47_len
  have ZZ := Lib.hid zero47'
  generalize Z47 = Z at ZL ZZ
  unfold LitPost
  rw [← hL2]
  clear hL1 hL2
  go_enter Try.func79, Try.ntmps79
  go_wp2_with (first
    | ((with_reducible refine wpList_alloc_abs (o := ⟨some 2, .alloc 47, _, _, _, _⟩) rfl 47 rfl Z ZZ.out ?_); intro g1 w1 e1 k1 b1 s1)
    | ((with_reducible refine wpList_build_abs (o := ⟨_, .build 47 _, _, _, _, _⟩) rfl 47 _ rfl [(2, .bool true), (3, .int .u8 (c.toNat : Int))] ?_ L1 BL.out ?_); (· simp; exact ⟨rfl, rfl⟩))
    | ((with_reducible refine wpList_alloc_abs (o := ⟨some 3, .alloc 47, _, _, _, _⟩) rfl 47 rfl Z ZZ.out ?_); intro g2 w2 e2 k2 b2 s2)
    | ((with_reducible refine wpList_store_abs (o := ⟨_, .store 47 (.tmp 3) (.tmp 5), _, _, _, _⟩) rfl 47 _ _ rfl rfl g2 L1 ?_ ?_ 47 Z k2.out 260 size47 H1.out ZL.out O1.out ?_); (· rfl); (· rfl); intro w3 k3 b3 s3)
    | (go_at_call 83; (with_reducible refine (CA.out _ _ k3.out).mono ?_); rintro e w4 ⟨rfl, k4, b4, s4⟩)
    | ((with_reducible refine wpList_load_abs (o := ⟨_, .load 47 (.tmp 3), _, _, _, _⟩) rfl 47 _ rfl g2 0 ?_ L2 k4.out.range _ Try.underlying47 rfl 260 size47 H2.out ?_); (· rfl))
    | ((with_reducible refine wpList_store_abs (o := ⟨_, .store 47 (.tmp 2) (.tmp 10), _, _, _, _⟩) rfl 47 _ _ rfl rfl g1 L2 ?_ ?_ 47 Z (((k1.out.below b2.out k1.out.lt).but b3.out (by have := e2.out; have := k1.out.lt; omega)).but b4.out (by have := e2.out; have := k1.out.lt; omega)) 260 size47 H2.out ZL.out O2.out ?_); (· rfl); (· rfl); intro w5 k5 b5 s5))
  refine bodyPost_ret (results_cell_row rfl _ _ g1 47 L2.toArray (0, 0) _ rfl k5.out Try.underlying47 rfl (by simpa [H2.out] using size47)) rfl ⟨rfl, ?_⟩
  have h1 := e1.out
  have h2 := e2.out
  have h3 := s1.out
  have h4 := b2.out.size
  have h5 := b3.out.size
  have h6 := b4.out.size
  exact b1.out.trans ((b2.out.mono (by omega)).trans ((b3.out.below (by omega) (fun n hn => by omega)).trans ((b4.out.below (by omega) (fun n hn => by omega)).trans (b5.out.below (by omega) (fun n hn => by omega)))))
end Go.Proofs.Ytilfggnhaehbcaa.Rx
