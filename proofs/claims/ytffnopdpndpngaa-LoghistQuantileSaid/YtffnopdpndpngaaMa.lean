/- Layer 12: the program's Index and Bounds. -/
import Derived.Test.YtffnopdpndpngaaShelfB
import Derived.Test.YtffnopdpndpngaaMLi
import Derived.Shelf.Small.Bits
set_option linter.unusedVariables false
set_option linter.unusedSimpArgs false
namespace Go.Proofs.Ytffnopdpndpngaa.Lh
open Go.RowKit
theorem isPre_any (p : Int) (w : World) :
    Calls Try.prog 38 #[.int .i64 p] w fun e w' => e = .returned (.bool (decide (0 ≤ p ∧ p ≤ 8))) ∧ w' = w := by
  by_cases h1 : 0 ≤ p
  · by_cases h2 : p ≤ 8
    · rw [decide_eq_true (show 0 ≤ p ∧ p ≤ 8 from ⟨h1, h2⟩)]
      go_enter Try.func38, Try.ntmps38
      go_wp2
      go_ret
      exact ⟨rfl, rfl⟩
    · rw [decide_eq_false (show ¬ (0 ≤ p ∧ p ≤ 8) by omega)]
      go_enter Try.func38, Try.ntmps38
      go_wp2
      go_ret
      exact ⟨rfl, rfl⟩
  · rw [decide_eq_false (show ¬ (0 ≤ p ∧ p ≤ 8) by omega)]
    go_enter Try.func38, Try.ntmps38
    go_wp2
    go_ret
    exact ⟨rfl, rfl⟩
theorem len_any (x : Int) (h0 : 0 ≤ x) (h1 : x ≤ 18446744073709551615) (w : World) :
    Calls Try.prog 62 #[.int .u64 x] w fun e w' => e = .returned (.int .i64 (Lib.bitLen x.toNat)) ∧ w' = w := Any.bits_Len Try.bitsLen x w h0 h1
theorem bitLen_log {v : Nat} (h0 : v ≠ 0) (h : v < 2 ^ 64) : Lib.bitLen v = v.log2 + 1 := by
  rw [Lib.bitLen_shift v.log2 v (Nat.log2_self_le h0) h]
  have h1 : v / 2 ^ v.log2 = 1 := by
    have a := Nat.log2_self_le h0
    have b : v < 2 ^ (v.log2 + 1) := Nat.lt_log2_self
    rw [Nat.pow_succ] at b
    refine (Nat.div_eq_iff (Nat.pow_pos (by omega))).2 ?_
    omega
  rw [h1]
  rfl
theorem kv_len {p v : Nat} (hp : p ≤ 8) (hv : v ≤ 1099511627776) : max (wrap64 (wrap64 ((Lib.bitLen v : Nat) - 1 : Int) - (p : Int))) 0 = (kv p v : Int) := by
  by_cases h0 : v = 0
  · subst h0
    have e1 : Lib.bitLen 0 = 0 := by decide
    have e2 : kv p 0 = 0 := by unfold kv; rw [Nat.zero_div]; rfl
    rw [e1, e2]
    unfold wrap64
    omega
  have h1 := bitLen_log h0 (show v < 2 ^ 64 by omega)
  have h2 : v.log2 ≤ 40 := by
    have : v < 2 ^ 41 := by omega
    have := (Nat.log2_lt h0).2 this
    omega
  have a := Nat.log2_self_le h0
  have b : v < 2 ^ (v.log2 + 1) := Nat.lt_log2_self
  have h3 : kv p v = v.log2 - p := by
    refine kv_eq ?_ ?_
    · have e : 2 ^ (v.log2 - p) * (2 * 2 ^ p) = 2 ^ (v.log2 - p + (1 + p)) := by rw [Nat.pow_add, Nat.pow_add]
      rw [e]
      exact Nat.lt_of_lt_of_le b (Nat.pow_le_pow_right (by omega) (by omega))
    · by_cases h : v.log2 ≤ p
      · exact .inl (by omega)
      · refine .inr ?_
        rw [← Nat.pow_add, show v.log2 - p + p = v.log2 by omega]
        exact a
  rw [h3, h1]
  unfold wrap64
  omega
theorem pow_le8 {p : Nat} (hp : p ≤ 8) : 1 ≤ (2 : Int) ^ p ∧ (2 : Int) ^ p ≤ 256 := by
  have h := Nat.pow_le_pow_right (show 0 < 2 by omega) hp
  have h2 := Nat.pow_pos (n := p) (show 0 < 2 by omega)
  have e : (2 : Int) ^ p = ((2 ^ p : Nat) : Int) := by simp
  rw [e]
  omega
theorem sh_bound {k p : Nat} (hk : k ≤ 40) (hp : p ≤ 8) : 0 ≤ (k : Int) * 2 ^ p ∧ (k : Int) * 2 ^ p ≤ 10240 := by
  obtain ⟨h1, h2⟩ := pow_le8 hp
  constructor
  · exact Int.mul_nonneg (by omega) (by omega)
  · exact Int.le_trans (Int.mul_le_mul_of_nonneg_left h2 (by omega)) (by omega)
theorem quot_bound (v k : Nat) : 0 ≤ (v : Int) / 2 ^ k ∧ (v : Int) / 2 ^ k ≤ v := by
  have e : (v : Int) / 2 ^ k = ((v / 2 ^ k : Nat) : Int) := by simp
  have := Nat.div_le_self v (2 ^ k)
  rw [e]
  generalize v / 2 ^ k = z at *
  omega
theorem indexOf_any (p v : Nat) (hp : p ≤ 8) (hv : v ≤ 1099511627776) (w : World) :
    Calls Try.prog 39 #[.int .i64 p, .int .i64 v] w fun e w' => e = .returned (.int .i64 (ix p v : Nat)) ∧ Below w.heap.size w w' := by
  have C := Lib.hid (len_any v (by omega) (by omega))
  have HK := Lib.hid (kv_len hp hv)
  have h40 := kv_le (p := p) hv
  have HE : Hid (((ix p v : Nat) : Int) = wrap64 (wrap64 ((kv p v : Int) * 2 ^ p) + (v : Int) / 2 ^ kv p v)) := by
    have a := sh_bound h40 hp
    have b := quot_bound v (kv p v)
    have e : ((ix p v : Nat) : Int) = (kv p v : Int) * 2 ^ p + (v : Int) / 2 ^ kv p v := by unfold ix; simp
    show _ = _
    rw [e]
    generalize (kv p v : Int) * 2 ^ p = x at *
    generalize (v : Int) / 2 ^ kv p v = y at *
    unfold wrap64
    omega
  go_enter Try.func39, Try.ntmps39
  go_wp2_with (go_at_call 62; (with_reducible refine (C.out _).mono ?_); rintro e w1 ⟨rfl, rfl⟩)
  rw [HK.out]
  generalize kv p v = k at *
  have hk0 : ¬ (k : Int) < 0 := by omega
  have hp0 : ¬ (p : Int) < 0 := by omega
  go_region
  go_wp2
  go_ret
  exact ⟨by rw [HE.out]; rfl, bel_drew (Below.refl _ _)⟩
theorem indexOf_I (p v : Int) (hp : 0 ≤ p ∧ p ≤ 8) (hv : 0 ≤ v ∧ v ≤ 1099511627776) (w : World) :
    Calls Try.prog 39 #[.int .i64 p, .int .i64 v] w fun e w' => e = .returned (.int .i64 (ixI p v)) ∧ Below w.heap.size w w' := by
  have C := indexOf_any p.toNat v.toNat (by omega) (by omega) w
  rw [show ((p.toNat : Nat) : Int) = p by omega, show ((v.toNat : Nat) : Int) = v by omega] at C
  exact C
set_option maxHeartbeats 1000000 in
theorem pIndex_any (p v : Int) (w : World) :
    Calls Try.prog 12 #[.int .i64 p, .int .i64 v] w fun e w' => e = .returned (idxOut p v) ∧ Below w.heap.size w w' := by
  have P := Lib.hid (isPre_any p)
  by_cases h1 : p < 0 ∨ 8 < p
  · rw [idxOut, if_pos (by omega)]
    rw [decide_eq_false (show ¬ (0 ≤ p ∧ p ≤ 8) by omega)] at P
    go_enter Try.func12, Try.ntmps12
    go_wp2_with (go_at_call 38; (with_reducible refine (P.out _).mono ?_); rintro e w1 ⟨rfl, rfl⟩)
    go_ret2
    exact ⟨rfl, by first | exact Below.refl _ _ | exact bel_drew (Below.refl _ _)⟩
  rw [decide_eq_true (show 0 ≤ p ∧ p ≤ 8 by omega)] at P
  by_cases h3 : v < 0
  · rw [idxOut, if_pos (by omega)]
    go_enter Try.func12, Try.ntmps12
    go_wp2_with (go_at_call 38; (with_reducible refine (P.out _).mono ?_); rintro e w1 ⟨rfl, rfl⟩)
    go_ret2
    exact ⟨rfl, by first | exact Below.refl _ _ | exact bel_drew (Below.refl _ _)⟩
  by_cases h4 : 1099511627776 < v
  · rw [idxOut, if_pos (by omega)]
    go_enter Try.func12, Try.ntmps12
    go_wp2_with (go_at_call 38; (with_reducible refine (P.out _).mono ?_); rintro e w1 ⟨rfl, rfl⟩)
    go_ret2
    exact ⟨rfl, by first | exact Below.refl _ _ | exact bel_drew (Below.refl _ _)⟩
  · rw [idxOut, if_neg (by omega)]
    have C := Lib.hid (indexOf_I p v (by omega) (by omega))
    generalize ixI p v = z at *
    go_enter Try.func12, Try.ntmps12
    go_wp2_with (first | (go_at_call 38; (with_reducible refine (P.out _).mono ?_); rintro e w1 ⟨rfl, rfl⟩) | (go_at_call 39; (with_reducible refine (C.out _).mono ?_); rintro e w2 ⟨rfl, hb⟩; have HB := Lib.hid hb; clear hb))
    go_ret2
    exact ⟨rfl, HB.out⟩
theorem hi_word (x y : Nat) (hx : x ≤ 1099511627776) (hy : y ≤ 1099511627776) : wrap64 (wrap64 ((x : Int) + wrap64 y) - 1) = (x : Int) + y - 1 := by
  have e1 : wrap64 (y : Int) = y := by unfold wrap64; omega
  rw [e1]
  have e2 : wrap64 ((x : Int) + y) = (x : Int) + y := by unfold wrap64; omega
  rw [e2]
  unfold wrap64
  omega
theorem word1 (x : Nat) (h : x ≤ 10752) : max (wrap64 ((x : Int) - 1)) 0 = ((x - 1 : Nat) : Int) := by unfold wrap64; omega
theorem word2 (i x : Nat) (hx : x ≤ i) (h : i ≤ 10752) : wrap64 ((i : Int) - wrap64 (x : Int)) = ((i - x : Nat) : Int) := by
  have e1 : wrap64 (x : Int) = x := by unfold wrap64; omega
  rw [e1]
  unfold wrap64
  omega
theorem word3 (x : Nat) (h : x ≤ 1099511627776) : wrap64 (x : Int) = x := by unfold wrap64; omega
theorem word4 (x y : Nat) (hy : 0 < y) : min ((x : Int) + y - 1) 1099511627776 = ((min (x + y - 1) 1099511627776 : Nat) : Int) := by omega
theorem bnd_words {p i : Nat} (hp : p ≤ 8) (ht : i ≤ top p) : max (wrap64 ((i : Int) / 2 ^ p - 1)) 0 = (kb p i : Int) ∧
    wrap64 (wrap64 ((i : Int) - wrap64 ((kb p i : Int) * 2 ^ p)) * 2 ^ kb p i) = (lo p i : Nat) ∧
    min (wrap64 (wrap64 (((lo p i : Nat) : Int) + wrap64 (2 ^ kb p i)) - 1)) 1099511627776 = (hi p i : Nat) := by
  have c40 : (2 : Nat) ^ 40 = 1099511627776 := by decide
  have h1 : i ≤ 10752 := Nat.le_trans ht (top_le hp)
  have h2 := kb_le ht
  have h4 := (kb_spec p i).1
  have h7 := lo_top.1 ht
  have h8 : (2 : Nat) ^ kb p i ≤ 2 ^ 40 := Nat.pow_le_pow_right (by decide) h2
  have h10 : 0 < 2 ^ kb p i := Nat.pow_pos (by decide)
  rw [c40] at h7 h8
  have e1 : ((i : Int) / 2 ^ p) = ((i / 2 ^ p : Nat) : Int) := by simp
  have e2 : (kb p i : Int) * 2 ^ p = ((kb p i * 2 ^ p : Nat) : Int) := by simp
  have e3 : (2 : Int) ^ kb p i = ((2 ^ kb p i : Nat) : Int) := by simp
  have e5 : lo p i = (i - kb p i * 2 ^ p) * 2 ^ kb p i := rfl
  have e6 : hi p i = min (lo p i + 2 ^ kb p i - 1) (2 ^ 40) := rfl
  rw [c40] at e6
  refine ⟨?_, ?_, ?_⟩
  · rw [e1, word1 _ (Nat.le_trans (Nat.div_le_self _ _) h1)]
    rfl
  · rw [e2, e3, word2 _ _ h4 h1, ← Int.natCast_mul, ← e5, word3 _ h7]
  · rw [e3, hi_word _ _ h7 h8, word4 _ _ h10, ← e6]
set_option maxHeartbeats 1000000 in
theorem pBounds_any (p i : Int) (w : World) :
    Calls Try.prog 14 #[.int .i64 p, .int .i64 i] w fun e w' => e = .returned (bndOut p i) ∧ Below w.heap.size w w' := by
  have P := Lib.hid (isPre_any p)
  by_cases h1 : p < 0 ∨ 8 < p
  · rw [bndOut, if_pos (by omega)]
    rw [decide_eq_false (show ¬ (0 ≤ p ∧ p ≤ 8) by omega)] at P
    go_enter Try.func14, Try.ntmps14
    go_wp2_with (go_at_call 38; (with_reducible refine (P.out _).mono ?_); rintro e w1 ⟨rfl, rfl⟩)
    go_ret3
    exact ⟨rfl, by first | exact Below.refl _ _ | exact bel_drew (Below.refl _ _)⟩
  rw [decide_eq_true (show 0 ≤ p ∧ p ≤ 8 by omega)] at P
  by_cases h3 : i < 0
  · rw [bndOut, if_pos (by omega)]
    go_enter Try.func14, Try.ntmps14
    go_wp2_with (go_at_call 38; (with_reducible refine (P.out _).mono ?_); rintro e w1 ⟨rfl, rfl⟩)
    go_ret3
    exact ⟨rfl, by first | exact Below.refl _ _ | exact bel_drew (Below.refl _ _)⟩
  have C := Lib.hid (indexOf_I p 1099511627776 (by omega) (by omega))
  have e : ixI p 1099511627776 = topI p := rfl
  rw [e] at C
  clear e
  by_cases h4 : topI p < i
  · rw [bndOut, if_pos (by omega)]
    generalize topI p = z at *
    go_enter Try.func14, Try.ntmps14
    go_wp2_with (first | (go_at_call 38; (with_reducible refine (P.out _).mono ?_); rintro e w1 ⟨rfl, rfl⟩) | (go_at_call 39; (with_reducible refine (C.out _).mono ?_); rintro e w2 ⟨rfl, hb⟩; have HB := Lib.hid hb; clear hb))
    go_ret3
    exact ⟨rfl, HB.out⟩
  · rw [bndOut, if_neg (by omega)]
    obtain ⟨p, rfl⟩ : ∃ q : Nat, p = q := ⟨p.toNat, by omega⟩
    obtain ⟨i, rfl⟩ : ∃ q : Nat, i = q := ⟨i.toNat, by omega⟩
    have hk := kb_le (p := p) (i := i) (by unfold topI at h4; rw [Int.toNat_natCast] at h4; omega)
    have HW := Lib.hid (bnd_words (p := p) (i := i) (by omega) (by unfold topI at h4; rw [Int.toNat_natCast] at h4; omega))
    have HL : Hid (loI (p : Int) (i : Int) = (lo p i : Nat) ∧ hiI (p : Int) (i : Int) = (hi p i : Nat)) := ⟨rfl, rfl⟩
    generalize lo p i = L at *
    generalize hi p i = H at *
    generalize topI p = z at *
    generalize kb p i = k at *
    have hk0 : ¬ (k : Int) < 0 := by omega
    have hp0 : ¬ (p : Int) < 0 := by omega
    have hw1 := HW.out.1
    go_enter Try.func14, Try.ntmps14
    go_wp2_with (first | (go_at_call 38; (with_reducible refine (P.out _).mono ?_); rintro e w1 ⟨rfl, rfl⟩) | (go_at_call 39; (with_reducible refine (C.out _).mono ?_); rintro e w2 ⟨rfl, hb⟩; have HB := Lib.hid hb; clear hb))
    rw [HW.out.2.1, HW.out.2.2]
    go_ret3
    exact ⟨by rw [HL.out.1, HL.out.2]; rfl, HB.out⟩
set_option maxHeartbeats 1000000 in
theorem isIn_any (v p i : Int) (w : World) :
    Calls Try.prog 66 #[.int .i64 v, .int .i64 p, .int .i64 i] w fun e w' => e = .returned (.bool (decide (¬ (p < 0 ∨ 8 < p ∨ v < 0 ∨ 1099511627776 < v) ∧ ixI p v = i))) ∧ Below w.heap.size w w' := by
  have C := Lib.hid (pIndex_any p v)
  unfold idxOut at C
  by_cases h : p < 0 ∨ 8 < p ∨ v < 0 ∨ 1099511627776 < v
  · rw [if_pos h] at C
    have HD : Hid (decide (¬ (p < 0 ∨ 8 < p ∨ v < 0 ∨ 1099511627776 < v) ∧ ixI p v = i) = false) := decide_eq_false (fun x => x.1 h)
    go_enter Try.func66, Try.ntmps66
    go_wp2_with (go_at_call 12; (with_reducible refine (C.out _).mono ?_); rintro e w1 ⟨rfl, hb⟩; have HB := Lib.hid hb; clear hb)
    go_ret
    exact ⟨by rw [HD.out]; rfl, HB.out⟩
  · rw [if_neg h] at C
    have HD : Hid (decide (¬ (p < 0 ∨ 8 < p ∨ v < 0 ∨ 1099511627776 < v) ∧ ixI p v = i) = decide (ixI p v = i)) := decide_eq_decide.2 ⟨fun x => x.2, fun x => ⟨h, x⟩⟩
    generalize ixI p v = z at *
    go_enter Try.func66, Try.ntmps66
    go_wp2_with (go_at_call 12; (with_reducible refine (C.out _).mono ?_); rintro e w1 ⟨rfl, hb⟩; have HB := Lib.hid hb; clear hb)
    go_ret
    exact ⟨by rw [HD.out]; rfl, HB.out⟩
end Go.Proofs.Ytffnopdpndpngaa.Lh
