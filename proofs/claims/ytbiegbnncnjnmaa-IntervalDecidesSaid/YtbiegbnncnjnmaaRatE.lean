/- The contracts of the reference of layer 3: fits, over. -/
import Derived.Test.YtbiegbnncnjnmaaRatD
import Derived.Laws.ResultCell
set_option linter.unusedVariables false
set_option linter.unusedSimpArgs false
namespace Go.Proofs.Ytbiegbnncnjnmaa.Rat
open Go.RowKit

theorem ret_int_bool {a b : Int} {c : Bool} (h : a = b) : Ending.returned (.tuple #[.int .i64 a, .bool c]) = .returned (.tuple #[.int .i64 b, .bool c]) := by rw [h]
set_option maxHeartbeats 1000000 in
theorem fits_raw (s : Int) (h l : Nat) (hl : l < 1152921504606846976) (hh : h ≤ 2305843009213693952) (w : World) :
    (h * 1152921504606846976 + l ≤ 1152921504606846976 → ∀ w, Calls Try.prog 95 #[.agg #[.int .i64 s, .int .i64 h, .int .i64 l]] w fun e w' => e = .returned (.tuple #[.int .i64 (if s < 0 then -((h * 1152921504606846976 + l : Nat) : Int) else ((h * 1152921504606846976 + l : Nat) : Int)), .bool true]) ∧ Below w.heap.size w w') ∧
    (¬ h * 1152921504606846976 + l ≤ 1152921504606846976 → ∀ w, Calls Try.prog 95 #[.agg #[.int .i64 s, .int .i64 h, .int .i64 l]] w fun e w' => e = .returned (.tuple #[.int .i64 0, .bool false]) ∧ Below w.heap.size w w') := by
  refine ⟨fun hf w => ?_, fun hf w => ?_⟩
  · have h1 : h = 0 ∨ h = 1 ∧ l = 0 := by omega
    rcases h1 with rfl | ⟨rfl, rfl⟩
    · by_cases hs : s < 0
      · rw [if_pos hs]
        go_enter Try.func95, Try.ntmps95
        go_wp2
        go_ret2
        exact ⟨ret_int_bool (by simp <;> omega), (Below.refl _ _).alloc (Nat.le_refl _) _⟩
      · rw [if_neg hs]
        go_enter Try.func95, Try.ntmps95
        go_wp2
        go_ret2
        exact ⟨ret_int_bool (by simp <;> omega), (Below.refl _ _).alloc (Nat.le_refl _) _⟩
    · by_cases hs : s < 0
      · rw [if_pos hs]
        go_enter Try.func95, Try.ntmps95
        go_wp2
        go_ret2
        exact ⟨ret_int_bool (by simp <;> omega), (Below.refl _ _).alloc (Nat.le_refl _) _⟩
      · rw [if_neg hs]
        go_enter Try.func95, Try.ntmps95
        go_wp2
        go_ret2
        exact ⟨ret_int_bool (by simp <;> omega), (Below.refl _ _).alloc (Nat.le_refl _) _⟩
  · by_cases h2 : 1 < h
    · have g : (1 : Int) < h := by omega
      go_enter Try.func95, Try.ntmps95
      go_wp2
      go_ret2
      exact ⟨rfl, (Below.refl _ _).alloc (Nat.le_refl _) _⟩
    · obtain rfl : h = 1 := by omega
      have g : (0 : Int) < l := by omega
      go_enter Try.func95, Try.ntmps95
      go_wp2
      go_ret2
      exact ⟨rfl, (Below.refl _ _).alloc (Nat.le_refl _) _⟩

/-- What is still to be divided, and what the quotient's low word is, when the bits from k on have been taken. -/
theorem bit_of (H L i : Nat) (hi : i < 60) : (H * 1152921504606846976 + L) / 2 ^ i % 2 = L / 2 ^ i % 2 := by
  have e : (1152921504606846976 : Nat) = 2 ^ i * 2 ^ (60 - i) := by rw [← Nat.pow_add, show i + (60 - i) = 60 by omega]
  have e2 : 2 ^ (60 - i) = 2 * 2 ^ (59 - i) := by rw [show 60 - i = 59 - i + 1 by omega, Nat.pow_succ, Nat.mul_comm]
  rw [e, show H * (2 ^ i * 2 ^ (60 - i)) + L = 2 ^ i * (H * 2 ^ (60 - i)) + L by rw [← Nat.mul_assoc, Nat.mul_comm H, Nat.mul_assoc], Nat.mul_add_div (Nat.two_pow_pos i), e2]
  rw [show H * (2 * 2 ^ (59 - i)) = 2 * (H * 2 ^ (59 - i)) by rw [← Nat.mul_assoc, Nat.mul_comm H, Nat.mul_assoc]]
  omega
def Ov (H L n k r q : Nat) : Prop := r = (H * 1152921504606846976 + L) / 2 ^ k % n ∧ q = 2 ^ k * ((H * 1152921504606846976 + L) / 2 ^ k / n)
theorem ov_start (H L n : Nat) (hH : H < n) (hL : L < 1152921504606846976) : Ov H L n 60 H 0 := by
  unfold Ov
  have e : (H * 1152921504606846976 + L) / 2 ^ 60 = H := by
    have : (2 : Nat) ^ 60 = 1152921504606846976 := by decide
    rw [this]; omega
  rw [e, Nat.mod_eq_of_lt hH, Nat.div_eq_of_lt hH]
  exact ⟨rfl, rfl⟩
theorem ov_yes {H L n i r q : Nat} (hi : i < 60) (hn : 0 < n) (h : Ov H L n (i + 1) r q) (hge : n ≤ 2 * r + L / 2 ^ i % 2) : Ov H L n i (2 * r + L / 2 ^ i % 2 - n) (q + 2 ^ i) := by
  obtain ⟨h1, h2⟩ := h
  have hr := Nat.mod_lt ((H * 1152921504606846976 + L) / 2 ^ (i + 1)) hn
  rw [← h1] at hr
  have hb : L / 2 ^ i % 2 < 2 := Nat.mod_lt _ (by decide)
  have s1 := div_step (H * 1152921504606846976 + L) n i hn
  have s2 := div_step_q (H * 1152921504606846976 + L) n i hn
  rw [bit_of H L i hi, ← h1] at s1 s2
  have d1 : (2 * r + L / 2 ^ i % 2) / n = 1 := by
    rw [Nat.div_eq_iff hn]; omega
  have d2 : (2 * r + L / 2 ^ i % 2) % n = 2 * r + L / 2 ^ i % 2 - n := by
    rw [Nat.mod_eq_sub_mod hge, Nat.mod_eq_of_lt (by omega)]
  refine ⟨by rw [s1, d2], ?_⟩
  rw [s2, d1, h2, Nat.pow_succ, Nat.mul_add, Nat.mul_one, Nat.mul_assoc]
theorem ov_no {H L n i r q : Nat} (hi : i < 60) (hn : 0 < n) (h : Ov H L n (i + 1) r q) (hlt : 2 * r + L / 2 ^ i % 2 < n) : Ov H L n i (2 * r + L / 2 ^ i % 2) q := by
  obtain ⟨h1, h2⟩ := h
  have s1 := div_step (H * 1152921504606846976 + L) n i hn
  have s2 := div_step_q (H * 1152921504606846976 + L) n i hn
  rw [bit_of H L i hi, ← h1] at s1 s2
  refine ⟨by rw [s1, Nat.mod_eq_of_lt hlt], ?_⟩
  rw [s2, Nat.div_eq_of_lt hlt, Nat.add_zero, h2, Nat.pow_succ, Nat.mul_assoc]
theorem ov_end {H L n r q : Nat} (h : Ov H L n 0 r q) : r = (H * 1152921504606846976 + L) % n ∧ q = (H * 1152921504606846976 + L) / n := by
  obtain ⟨h1, h2⟩ := h
  rw [Nat.pow_zero, Nat.div_one] at h1 h2
  exact ⟨h1, by rw [h2, Nat.one_mul]⟩
theorem ov_bound {H L n k r q : Nat} (hn : 0 < n) (hH : H < n) (hL : L < 1152921504606846976) (h : Ov H L n k r q) : r < n ∧ q < 1152921504606846976 := by
  obtain ⟨h1, h2⟩ := h
  refine ⟨by rw [h1]; exact Nat.mod_lt _ hn, ?_⟩
  have h3 : q ≤ (H * 1152921504606846976 + L) / n := by
    rw [h2, Nat.div_div_eq_div_mul, Nat.mul_comm (2 ^ k) n, ← Nat.div_div_eq_div_mul]
    exact Nat.mul_div_le _ _
  have h4 : (H * 1152921504606846976 + L) / n < 1152921504606846976 := by
    rw [Nat.div_lt_iff_lt_mul hn]
    calc H * 1152921504606846976 + L < (H + 1) * 1152921504606846976 := by omega
      _ ≤ n * 1152921504606846976 := Nat.mul_le_mul_right _ hH
      _ = 1152921504606846976 * n := Nat.mul_comm _ _
  omega

theorem res_cell_tmp {fn : Func} {p u : Tmp} {ty : TypeId} {P : Program} (h : fn.results = #[.cell p ty, .tmp u]) (tmps : Array Value) (w : World) (g : Nat) (t : TypeId) (cs : Array Value) (fr : Nat × Nat) (d : TypeDesc)
    (hp : tmps.getD p undef = .pointer (some ⟨g, 0, none⟩)) (hg : w.heap[g]? = some (.cells cs t fr))
    (hu : P.underlying ty = some d) (hd : (match d with | .struct _ | .array _ _ => true | _ => false) = true) (hi : (P.info? ty).map (·.size) = some cs.size) :
    (results fn tmps).run P w = .ok (.tuple #[.agg cs, tmps.getD u undef]) w := by
  rw [results_cell_tmp h, hp]
  have hl := run_loadVar_row (P := P) w g t ty cs fr d hg hu (by cases d <;> simp_all) hi
  simp only [asAddr, Sem.run_pure, Result.andThen_ok, hl]
theorem ret_wid_int {a b c d a' b' c' d' : Int} (h1 : a = a') (h2 : b = b') (h3 : c = c') (h4 : d = d') : Ending.returned (.tuple #[.agg #[.int .i64 a, .int .i64 b, .int .i64 c], .int .i64 d]) = .returned (.tuple #[.agg #[.int .i64 a', .int .i64 b', .int .i64 c'], .int .i64 d']) := by rw [h1, h2, h3, h4]
set_option maxHeartbeats 2000000 in
theorem over_raw (s : Int) (h l n : Nat) (hn : 1 ≤ n) (hn2 : n ≤ 1152921504606846976) (hl : l < 1152921504606846976) (hh : h ≤ 2305843009213693952) (w : World) :
    Calls Try.prog 78 #[.agg #[.int .i64 s, .int .i64 h, .int .i64 l], .int .i64 n] w fun e w' => e = .returned (.tuple #[.agg #[.int .i64 s, .int .i64 (h / n : Nat), .int .i64 ((h % n * 1152921504606846976 + l) / n : Nat)], .int .i64 ((h % n * 1152921504606846976 + l) % n : Nat)]) ∧ Below w.heap.size w w' := by
  have hH := Nat.mod_lt h (show 0 < n by omega)
  have HST := Lib.hid (ov_start (h % n) l n hH hl)
  have hm : ((h : Int) % (n : Int)) = ((h % n : Nat) : Int) := by simp
  have hd : ((h : Int) / (n : Int)) = ((h / n : Nat) : Int) := by simp
  have HM := Lib.hid hm
  have HD := Lib.hid hd
  clear hm hd
  have hn0 : ¬ ((n : Int) = 0) := by omega
  go_enter Try.func78, Try.ntmps78
  go_wp2
  go_region
  go_wp2
  rw [HM.out]
  clear HM
  go_loop [6, 7, 8] (fun vq vr vi => ∃ k r q : Nat, k ≤ 60 ∧ vi = .int .i64 ((k : Int) - 1) ∧ vr = .int .i64 r ∧ vq = .int .i64 q ∧ Hid (Ov (h % n) l n k r q)) (fun _ _ vi => (intOf vi + 1).toNat)
  case atStart => exact ⟨60, h % n, 0, by omega, rfl, rfl, rfl, HST⟩
  case round =>
    obtain ⟨k, r, q, hk, rfl, rfl, rfl, HO⟩ := hrel
    obtain ⟨hr, hq⟩ := ov_bound (show 0 < n by omega) hH hl HO.out
    by_cases h0 : k = 0
    · subst h0
      obtain ⟨e1, e2⟩ := ov_end HO.out
      have E1 := Lib.hid e1
      have E2 := Lib.hid e2
      clear e1 e2
      go_wp2
      go_region
      go_wp2
      refine bodyPost_ret (res_cell_tmp rfl _ _ (w.heap.size + 1) 71 #[.int .i64 s, .int .i64 (wrap64 ((h : Int) / n)), .int .i64 q] (0, 0) _ rfl (heap_alloc2_new w _ _) Try.underlying71 rfl info49) rfl ?_
      refine ⟨ret_wid_int rfl ?_ (congrArg Nat.cast E2.out) (congrArg Nat.cast E1.out), ((((Below.refl w.heap.size w).alloc (Nat.le_refl _) _).alloc (by simp) _).drew).drew⟩
      have hdl := Nat.div_le_self h n
      rw [HD.out]
      generalize h / n = t at *
      exact IntWalk.wrap64_in _ (by omega)
    · obtain ⟨i, rfl⟩ : ∃ i, k = i + 1 := ⟨k - 1, by omega⟩
      have ei : (((i + 1 : Nat) : Int) - 1) = (i : Int) := by omega
      rw [ei]
      have hbb : ((l : Int) / 2 ^ i).tmod 2 = ((l / 2 ^ i % 2 : Nat) : Int) := by
        have e : ((l : Int) / 2 ^ i) = ((l / 2 ^ i : Nat) : Int) := by simp
        rw [e, Int.tmod_eq_emod_of_nonneg (Int.natCast_nonneg _)]
        generalize l / 2 ^ i = t
        omega
      have hp2 : 2 ^ i ≤ 576460752303423488 := by
        have : 2 ^ i ≤ 2 ^ 59 := Nat.pow_le_pow_right (by decide) (by omega)
        simpa using this
      have hpe : ((2 : Int) ^ i) = ((2 ^ i : Nat) : Int) := by simp
      have hp3 : (0 : Int) ≤ (2 : Int) ^ i ∧ (2 : Int) ^ i ≤ 576460752303423488 := by
        rw [hpe]
        generalize 2 ^ i = t at *
        omega
      have HPE := Lib.hid hpe
      clear hpe
      have hb2 := Nat.mod_lt (l / 2 ^ i) (show 0 < 2 by decide)
      have hb3 : (0 : Int) ≤ ((l : Int) / 2 ^ i).tmod 2 ∧ ((l : Int) / 2 ^ i).tmod 2 ≤ 1 := by
        rw [hbb]
        generalize l / 2 ^ i % 2 = t at *
        omega
      by_cases hge : n ≤ 2 * r + l / 2 ^ i % 2
      · have HN := Lib.hid (ov_yes (by omega) (by omega) HO.out hge)
        have hc : (n : Int) ≤ 2 * (r : Int) + ((l : Int) / 2 ^ i).tmod 2 := by
          rw [hbb]
          generalize l / 2 ^ i % 2 = t at *
          omega
        have HBB := Lib.hid hbb
        clear hbb
        go_wp2
        refine ⟨⟨i, 2 * r + l / 2 ^ i % 2 - n, q + 2 ^ i, by omega, rfl, ?_, ?_, HN⟩, by simp [intOf]⟩
        · rw [HBB.out]
          generalize l / 2 ^ i % 2 = t at *
          exact congrArg (Value.int .i64) (by omega)
        · rw [HPE.out]; rfl
      · have HN := Lib.hid (ov_no (by omega) (by omega) HO.out (by omega))
        have hc : ¬ (n : Int) ≤ 2 * (r : Int) + ((l : Int) / 2 ^ i).tmod 2 := by
          rw [hbb]
          generalize l / 2 ^ i % 2 = t at *
          omega
        have HBB := Lib.hid hbb
        clear hbb
        go_wp2
        refine ⟨⟨i, 2 * r + l / 2 ^ i % 2, q, by omega, rfl, ?_, ?_, HN⟩, by simp [intOf]⟩
        · rw [HBB.out]
          generalize l / 2 ^ i % 2 = t at *
          exact congrArg (Value.int .i64) (by omega)
        · rfl
end Go.Proofs.Ytbiegbnncnjnmaa.Rat
