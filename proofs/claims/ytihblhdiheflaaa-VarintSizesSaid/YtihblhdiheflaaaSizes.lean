/- The walk of the law VarintSizes. -/
import Derived.Test.YtihblhdiheflaaaNil
namespace Go.Proofs.Ytihblhdiheflaaa
open Go.RowKit

/-- A greater number has no shorter encoding. -/
theorem uv_mono : ∀ (k a b : Nat), a < 128 ^ (k + 1) → a ≤ b → (Lib.uvarint a).length ≤ (Lib.uvarint b).length
  | k, a, b, hk, h => by
    by_cases ha : a < 128
    · rw [Lib.uvarint_small ha]; exact Lib.uvarint_pos b
    · cases k with
      | zero => omega
      | succ k =>
        rw [Lib.uvarint_big (x := a) (by omega), Lib.uvarint_big (x := b) (by omega), List.length_cons, List.length_cons]
        have := uv_mono k (a / 128) (b / 128) (by rw [Nat.pow_succ] at hk; omega) (by omega)
        omega
theorem uv_one (a : Nat) : ((Lib.uvarint a).length = 1) ↔ a < 128 := by
  by_cases ha : a < 128
  · rw [Lib.uvarint_small ha]; simp [ha]
  · rw [Lib.uvarint_big (by omega), List.length_cons]
    have := Lib.uvarint_pos (a / 128)
    omega

set_option maxHeartbeats 1000000 in
set_option maxRecDepth 100000 in
theorem sizes_walk (a b : Int) (w : World) :
    Calls Try.prog 8 #[.int .i64 a, .int .i64 b] w fun e w' => e = .returned (.bool true) ∧ Below w.heap.size w w' := by
  by_cases h1 : a < 0
  · go_enter Try.func8, Try.ntmps8
    go_wp2_with fail
    refine (awake_any _).mono ?_
    rintro e w1 ⟨rfl, hb⟩
    go_wp2
    go_ret
    exact ⟨rfl, hb⟩
  · by_cases h2 : b < a
    · go_enter Try.func8, Try.ntmps8
      go_wp2_with fail
      refine (awake_any _).mono ?_
      rintro e w1 ⟨rfl, hb⟩
      go_wp2
      go_ret
      exact ⟨rfl, hb⟩
    · by_cases h3 : 1152921504606846976 < b
      · go_enter Try.func8, Try.ntmps8
        go_wp2_with fail
        refine (awake_any _).mono ?_
        rintro e w1 ⟨rfl, hb⟩
        go_wp2
        go_ret
        exact ⟨rfl, hb⟩
      · obtain ⟨m, rfl⟩ := Int.eq_ofNat_of_zero_le (show 0 ≤ a by omega)
        obtain ⟨n, rfl⟩ := Int.eq_ofNat_of_zero_le (show 0 ≤ b by omega)
        have hm : m ≤ n := by omega
        have hn : n ≤ 1152921504606846976 := by omega
        have g1 := Lib.uvarint_pos m
        have g2 := uv_mono 8 m n (Nat.lt_of_lt_of_le (show m < 9223372036854775808 by omega) (by decide)) hm
        have g3 := uv_len9 (m := n) (by omega)
        have g4 := uv_one m
        have g5 := uv_one (fold (-(m : Int)))
        have g6 : (fold (-(m : Int)) < 128) ↔ m ≤ 64 := by
          by_cases hz : m = 0
          · subst hz; decide
          · have := fold_neg (n := -(m : Int)) (by omega)
            omega
        have g7 : ((((Lib.uvarint m).length : Int) == 1) == decide ((m : Int) < 128)) = true := by
          rw [beq_iff_eq, Bool.eq_iff_iff, beq_iff_eq, decide_eq_true_eq]; omega
        have g8 : ((((Lib.uvarint (fold (-(m : Int)))).length : Int) == 1) == decide ((m : Int) ≤ 64)) = true := by
          rw [beq_iff_eq, Bool.eq_iff_iff, beq_iff_eq, decide_eq_true_eq]; omega
        have hsz := mk_size (Lib.uvarint (fold (-(m : Int))))
        have G4 := Lib.hid g4
        have hsg := fun w => signed_nil (-(m : Int)) w (by omega) (by omega)
        generalize (⟨(Lib.uvarint (fold (-(m : Int)))).toArray⟩ : ByteArray) = t at *
        rw [← hsz] at g8
        have HSG := Lib.hid hsg
        clear g4 g5 g6 h1 h2 h3 hsg hsz
        go_enter Try.func8, Try.ntmps8
        go_wp2_with fail
        refine (size_any m w (by omega)).mono ?_
        rintro e w1 ⟨rfl, hb1⟩
        have H1 : Hid (Below w.heap.size w w1) := hb1
        clear hb1
        go_wp2_with fail
        refine (size_any n w1 (by omega)).mono ?_
        rintro e w2 ⟨rfl, hb2⟩
        have H2 : Hid (Below w.heap.size w w2) := (H1.out.trans (hb2.mono H1.out.size))
        clear hb2 H1
        go_wp2_with fail
        refine (HSG.out w2).mono ?_
        rintro e w3 ⟨rfl, hb3⟩
        have H3 : Hid (Below w.heap.size w w3) := (H2.out.trans (hb3.mono H2.out.size))
        clear hb3 H2
        go_wp2_with fail
        refine (awake_any w3).mono ?_
        rintro e w4 ⟨rfl, hb4⟩
        have H4 : Hid (Below w.heap.size w w4) := (H3.out.trans (hb4.mono H3.out.size))
        clear hb4 H3
        go_wp2
        go_ret
        exact ⟨rfl, H4.out⟩
end Go.Proofs.Ytihblhdiheflaaa
