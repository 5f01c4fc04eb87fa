/- The contracts of the reference of layer 3: Make. -/
import Derived.Test.YtbhlpcomgfmodaaDoorRatM
set_option linter.unusedVariables false
set_option linter.unusedSimpArgs false
namespace Go.Proofs.YtbhlpcomgfmodaaDoor.Rat
open Go.RowKit

/-- What Make hands back for a denominator that is not 0. -/
def makeOut (n d : Int) : Value := pairOut (n.sign * d.sign * (n.natAbs / Nat.gcd n.natAbs d.natAbs : Nat)) (d.natAbs / Nat.gcd n.natAbs d.natAbs : Nat)
theorem pairOut_yes {a b : Int} (h1 : a.natAbs ≤ 1152921504606846976) (h2 : b.natAbs ≤ 1152921504606846976) : pairOut a b = .tuple #[.agg #[.int .i64 a, .int .i64 b], .int .i64 0] := if_pos ⟨h1, h2⟩
theorem pairOut_no {a b : Int} (h : ¬ (a.natAbs ≤ 1152921504606846976 ∧ b.natAbs ≤ 1152921504606846976)) : pairOut a b = .tuple #[.agg #[.int .i64 0, .int .i64 0], .int .i64 14] := if_neg h

set_option maxHeartbeats 1000000 in
theorem make_zero (n : Int) (w : World) :
    Calls Tryd.prog 12 #[.int .i64 n, .int .i64 0] w fun e w' => e = .returned (.tuple #[.agg #[.int .i64 0, .int .i64 0], .int .i64 26]) ∧ Below w.heap.size w w' := by
  go_enter Tryd.func12, Tryd.ntmps12
  go_wp2
  refine bodyPost_ret (res_cell_tmp rfl _ _ w.heap.size 23 _ (0, 0) _ rfl (heap_alloc_new w _) Tryd.underlying23 rfl info23) rfl ?_
  exact ⟨rfl, (Below.refl _ _).alloc (Nat.le_refl _) _⟩

set_option maxHeartbeats 2000000 in
theorem make_any (n d : Int) (i1 : inI n) (i2 : inI d) (h0 : d ≠ 0) (w : World) :
    Calls Tryd.prog 12 #[.int .i64 n, .int .i64 d] w fun e w' => e = .returned (makeOut n d) ∧ Below w.heap.size w w' := by
  unfold inI at i1 i2
  have z2 : ¬ (d == 0) = true := by simp [h0]
  have M1 := Lib.hid fun w => magnitude_any n i1.1 i1.2 w
  have M2 := Lib.hid fun w => magnitude_any d i2.1 i2.2 w
  have hb1 : 1 ≤ d.natAbs := by omega
  have ha2 : n.natAbs ≤ 9223372036854775808 := by omega
  have hb2 : d.natAbs ≤ 9223372036854775808 := by omega
  have hx1 : 1 ≤ Nat.gcd n.natAbs d.natAbs := Nat.gcd_pos_of_pos_right _ hb1
  have hdl : n.natAbs / Nat.gcd n.natAbs d.natAbs ≤ n.natAbs := Nat.div_le_self _ _
  have hdr : d.natAbs / Nat.gcd n.natAbs d.natAbs ≤ d.natAbs := Nat.div_le_self _ _
  have hO : makeOut n d = pairOut (n.sign * d.sign * (n.natAbs / Nat.gcd n.natAbs d.natAbs : Nat)) (d.natAbs / Nat.gcd n.natAbs d.natAbs : Nat) := rfl
  have hsg : n.sign * d.sign * (n.natAbs / Nat.gcd n.natAbs d.natAbs : Nat) = if (decide (n < 0) != decide (d < 0)) = true then -((n.natAbs / Nat.gcd n.natAbs d.natAbs : Nat) : Int) else ((n.natAbs / Nat.gcd n.natAbs d.natAbs : Nat) : Int) := by
    rcases Int.lt_trichotomy n 0 with h1 | h1 | h1 <;> rcases Int.lt_trichotomy d 0 with h2 | h2 | h2
    · rw [sign_neg' h1, sign_neg' h2, decide_eq_true h1, decide_eq_true h2]; simp
    · exact absurd h2 h0
    · rw [sign_neg' h1, sign_pos' h2, decide_eq_true h1, decide_eq_false (by omega)]; simp
    · subst h1; simp
    · exact absurd h2 h0
    · subst h1; simp
    · rw [sign_pos' h1, sign_neg' h2, decide_eq_false (by omega), decide_eq_true h2]; simp
    · exact absurd h2 h0
    · rw [sign_pos' h1, sign_pos' h2, decide_eq_false (by omega), decide_eq_false (by omega)]; simp
  rw [hsg] at hO
  have hG : ∀ x y : Nat, Nat.gcd n.natAbs d.natAbs = Nat.gcd x y → y ≠ 0 → Nat.gcd n.natAbs d.natAbs = Nat.gcd y (x % y) := fun x y h _ => by rw [h, Nat.gcd_comm, Nat.gcd_rec, Nat.gcd_comm]
  have HO := Lib.hid hO
  clear hO hsg
  generalize hga : Nat.gcd n.natAbs d.natAbs = ga at *
  have HGA := Lib.hid hga
  have HG := Lib.hid hG
  clear hga hG
  generalize n.natAbs = a at *
  generalize d.natAbs = b at *
  go_enter Tryd.func12, Tryd.ntmps12
  go_wp2_with fail
  refine (M1.out _).mono ?_
  rintro e w1 ⟨rfl, rfl⟩
  go_wp2_with fail
  refine (M2.out _).mono ?_
  rintro e w2 ⟨rfl, rfl⟩
  go_wp2
  go_loopw [8, 9] (fun va vb wr => ∃ x y : Nat, va = .int .u64 x ∧ vb = .int .u64 y ∧ x ≤ 9223372036854775808 ∧ y ≤ 9223372036854775808 ∧ Hid (ga = Nat.gcd x y) ∧ Hid (∃ m, wr = (w.alloc (.cells #[.int .i64 0, .int .i64 0] 23)).drewN m)) (fun _ vb _ => (intOf vb).toNat)
  case atStart => exact ⟨a, b, rfl, rfl, ha2, hb2, HGA.out.symm, ⟨0, rfl⟩⟩
  case round =>
    obtain ⟨x, y, rfl, rfl, hx, hy, H, HB⟩ := hrel
    by_cases h0' : y = 0
    · subst h0'
      have hxg : x = ga := by rw [H.out, Nat.gcd_zero_right]
      subst hxg
      obtain ⟨m, hw⟩ := HB.out
      subst hw
      have hx0 : ¬ ((x : Int) = 0) := by omega
      have hA : ((a : Int) / (x : Int)) = ((a / x : Nat) : Int) := by simp
      have hB : ((b : Int) / (x : Int)) = ((b / x : Nat) : Int) := by simp
      have HA := Lib.hid hA
      have HB2 := Lib.hid hB
      clear hA hB
      go_wp2
      go_region
      rw [HA.out, HB2.out]
      generalize a / x = A at *
      generalize b / x = B at *
      have hwr : ∀ t : Nat, t ≤ 9223372036854775808 → IntKind.u64.wrap (t : Int) = t := fun t ht => IntWalk.u64_in _ (by omega)
      rw [hwr A (by omega), hwr B (by omega)]
      have hz : (((w.alloc (.cells #[.int .i64 0, .int .i64 0] 23)).drewN m).drew).heap[w.heap.size]? = some (.cells #[.int .i64 0, .int .i64 0] 23 (0, 0)) := heap_alloc_new w _
      have HB3 : Hid (Below w.heap.size w (((w.alloc (.cells #[.int .i64 0, .int .i64 0] 23)).drewN m).drew)) := (below_drewN ((Below.refl _ _).alloc (Nat.le_refl _) _) m).drew
      clear HB hwr HA HB2 HG HGA H
      generalize (((w.alloc (.cells #[.int .i64 0, .int .i64 0] 23)).drewN m).drew) = w5 at *
      have HZ := Lib.hid hz
      obtain ⟨c0, c1⟩ := cells2 hz
      obtain ⟨f0, f1⟩ := frozen2 hz
      clear hz
      by_cases hA1 : A ≤ 1152921504606846976
      · by_cases hB1 : B ≤ 1152921504606846976
        · by_cases hn : n < 0
          · by_cases hd : d < 0
            · have hO := HO.out
              rw [decide_eq_true hn, decide_eq_true hd, if_neg (by decide), pairOut_yes (by omega) (by omega)] at hO
              have HO2 := Lib.hid hO
              clear hO HO
              go_wp2
              refine bodyPost_ret (res_cell_tmp rfl _ _ w.heap.size 23 _ (0, 0) _ rfl (set2 _ _ HZ.out) Tryd.underlying23 rfl info23) rfl ?_
              exact ⟨by rw [HO2.out]; rfl, (HB3.out.setCell (Nat.le_refl _) _).setCell (Nat.le_refl _) _⟩
            · have hO := HO.out
              rw [decide_eq_true hn, decide_eq_false hd, if_pos (show (true != false) = true from rfl), pairOut_yes (by omega) (by omega)] at hO
              have HO2 := Lib.hid hO
              clear hO HO
              go_wp2
              refine bodyPost_ret (res_cell_tmp rfl _ _ w.heap.size 23 _ (0, 0) _ rfl (set2 _ _ HZ.out) Tryd.underlying23 rfl info23) rfl ?_
              exact ⟨by rw [HO2.out]; rfl, (HB3.out.setCell (Nat.le_refl _) _).setCell (Nat.le_refl _) _⟩
          · by_cases hd : d < 0
            · have hO := HO.out
              rw [decide_eq_false hn, decide_eq_true hd, if_pos (show (false != true) = true from rfl), pairOut_yes (by omega) (by omega)] at hO
              have HO2 := Lib.hid hO
              clear hO HO
              go_wp2
              refine bodyPost_ret (res_cell_tmp rfl _ _ w.heap.size 23 _ (0, 0) _ rfl (set2 _ _ HZ.out) Tryd.underlying23 rfl info23) rfl ?_
              exact ⟨by rw [HO2.out]; rfl, (HB3.out.setCell (Nat.le_refl _) _).setCell (Nat.le_refl _) _⟩
            · have hO := HO.out
              rw [decide_eq_false hn, decide_eq_false hd, if_neg (by decide), pairOut_yes (by omega) (by omega)] at hO
              have HO2 := Lib.hid hO
              clear hO HO
              go_wp2
              refine bodyPost_ret (res_cell_tmp rfl _ _ w.heap.size 23 _ (0, 0) _ rfl (set2 _ _ HZ.out) Tryd.underlying23 rfl info23) rfl ?_
              exact ⟨by rw [HO2.out]; rfl, (HB3.out.setCell (Nat.le_refl _) _).setCell (Nat.le_refl _) _⟩
        · have hO := HO.out
          rw [pairOut_no (by omega)] at hO
          have HO2 := Lib.hid hO
          have g1 : (1152921504606846976 : Int) < B := by omega
          clear hO HO
          go_wp2
          refine bodyPost_ret (res_cell_tmp rfl _ _ w.heap.size 23 _ (0, 0) _ rfl (set2 _ _ HZ.out) Tryd.underlying23 rfl info23) rfl ?_
          exact ⟨by rw [HO2.out]; rfl, (HB3.out.setCell (Nat.le_refl _) _).setCell (Nat.le_refl _) _⟩
      · have hO := HO.out
        rw [pairOut_no (by split <;> omega)] at hO
        have HO2 := Lib.hid hO
        have g1 : (1152921504606846976 : Int) < A := by omega
        clear hO HO
        go_wp2
        refine bodyPost_ret (res_cell_tmp rfl _ _ w.heap.size 23 _ (0, 0) _ rfl (set2 _ _ HZ.out) Tryd.underlying23 rfl info23) rfl ?_
        exact ⟨by rw [HO2.out]; rfl, (HB3.out.setCell (Nat.le_refl _) _).setCell (Nat.le_refl _) _⟩
    · have hy0 : 0 < (y : Int) := by omega
      have hyx : ¬ ((y : Int) = 0) := by omega
      have hlt := Nat.mod_lt x (show 0 < y by omega)
      have HG2 : Hid (ga = Nat.gcd y (x % y)) := by
        show _ = _
        rw [H.out, Nat.gcd_comm, Nat.gcd_rec, Nat.gcd_comm]
      have hm : ((x : Int) % (y : Int)) = ((x % y : Nat) : Int) := by simp
      have HM := Lib.hid hm
      have HD : Hid (∃ m, wr.drew = (w.alloc (.cells #[.int .i64 0, .int .i64 0] 23)).drewN m) := by
        obtain ⟨m, hm⟩ := HB.out
        exact ⟨m + 1, by rw [hm]; rfl⟩
      clear hm
      go_wp2
      go_region
      go_wp2
      go_roundw
      case rel => exact ⟨y, x % y, rfl, by rw [HM.out], by omega, by omega, HG2, HD⟩
      case measure => simp [intOf]; omega
end Go.Proofs.YtbhlpcomgfmodaaDoor.Rat
