/- The contracts of the reference of layer 3: Mul. -/
import Derived.Test.YtbiegbnncnjnmaaRatG
import Derived.Deep.RegionHeld3
set_option linter.unusedVariables false
set_option linter.unusedSimpArgs false
namespace Go.Proofs.Ytbiegbnncnjnmaa.Rat
open Go.RowKit

def inI (n : Int) : Prop := -9223372036854775808 ≤ n ∧ n ≤ 9223372036854775807
theorem check_yes (n d : Int) (h : chk n d) (w : World) :
    Calls Try.prog 38 #[.agg #[.int .i64 n, .int .i64 d]] w fun e w' => e = .returned (.int .i64 0) ∧ Below w.heap.size w w' := by
  have h2 := check_any n d w (by unfold chk at h; omega) (by unfold chk at h; omega)
  rw [if_pos h] at h2
  exact h2
theorem check_no (n d : Int) (hn : inI n) (hd : inI d) (h : ¬ chk n d) (w : World) :
    Calls Try.prog 38 #[.agg #[.int .i64 n, .int .i64 d]] w fun e w' => e = .returned (.int .i64 1) ∧ Below w.heap.size w w' := by
  have h2 := check_any n d w hn hd
  rw [if_neg h] at h2
  exact h2

/-- What a cell holds, as the world says. -/
def held (W : World) (g j : Nat) : Value := (W.cell? ⟨g, j, none⟩).getD undef
/-- Two arguments' blocks, and the result's, whatever it holds. -/
def Two (w : World) (x0 x1 y0 y1 : Value) (t : TypeId) (W : World) : Prop :=
  W.heap[w.heap.size]? = some (.cells #[x0, x1] t (0, 0)) ∧ W.heap[w.heap.size + 1]? = some (.cells #[y0, y1] t (0, 0)) ∧ (∃ z0 z1, W.heap[w.heap.size + 1 + 1]? = some (.cells #[z0, z1] t (0, 0))) ∧ Below w.heap.size w W
theorem Three.two {w W : World} {x0 x1 y0 y1 z0 z1 : Value} {t : TypeId} (h : Three w (.cells #[x0, x1] t) (.cells #[y0, y1] t) (.cells #[z0, z1] t) W) : Two w x0 x1 y0 y1 t W := ⟨h.1, h.2.1, ⟨z0, z1, h.2.2.1⟩, h.2.2.2⟩
theorem Two.step {w w1 w2 : World} {x0 x1 y0 y1 : Value} {t : TypeId} (h : Two w x0 x1 y0 y1 t w1) (hb : Below w1.heap.size w1 w2) : Two w x0 x1 y0 y1 t w2 := by
  obtain ⟨z0, z1, hz⟩ := h.2.2.1
  exact ⟨(hb.block _ (Array.getElem?_eq_some_iff.1 h.1).1).trans h.1, (hb.block _ (Array.getElem?_eq_some_iff.1 h.2.1).1).trans h.2.1, ⟨z0, z1, (hb.block _ (Array.getElem?_eq_some_iff.1 hz).1).trans hz⟩, h.2.2.2.trans (hb.mono h.2.2.2.size)⟩
theorem Two.store {w w1 : World} {x0 x1 y0 y1 : Value} {t : TypeId} (x y : Value) (h : Two w x0 x1 y0 y1 t w1) : Two w x0 x1 y0 y1 t ((w1.setCell ⟨w.heap.size + 1 + 1, 0, none⟩ x).setCell ⟨w.heap.size + 1 + 1, 1, none⟩ y) := by
  obtain ⟨z0, z1, hz⟩ := h.2.2.1
  refine ⟨?_, ?_, ⟨x, y, set2 _ _ hz⟩, (h.2.2.2.setCell (by simp; omega) _).setCell (by simp; omega) _⟩
  · rw [heap_setCell_other _ _ _ _ (by simp; omega), heap_setCell_other _ _ _ _ (by simp; omega)]; exact h.1
  · rw [heap_setCell_other _ _ _ _ (by simp), heap_setCell_other _ _ _ _ (by simp)]; exact h.2.1
theorem Two.drew {w W : World} {x0 x1 y0 y1 : Value} {t : TypeId} (h : Two w x0 x1 y0 y1 t W) : Two w x0 x1 y0 y1 t W.drew := ⟨h.1, h.2.1, h.2.2.1, h.2.2.2.drew⟩
theorem Two.all {w W : World} {x0 x1 y0 y1 : Value} {t : TypeId} (h : Two w x0 x1 y0 y1 t W) :
    W.cell? ⟨w.heap.size, 0, none⟩ = some x0 ∧ W.cell? ⟨w.heap.size, 1, none⟩ = some x1 ∧ W.cell? ⟨w.heap.size + 1, 0, none⟩ = some y0 ∧ W.cell? ⟨w.heap.size + 1, 1, none⟩ = some y1 ∧
    W.cell? ⟨w.heap.size + 1 + 1, 0, none⟩ = some (held W (w.heap.size + 1 + 1) 0) ∧ W.cell? ⟨w.heap.size + 1 + 1, 1, none⟩ = some (held W (w.heap.size + 1 + 1) 1) ∧ W.frozen? ⟨w.heap.size + 1 + 1, 0, none⟩ = false ∧ W.frozen? ⟨w.heap.size + 1 + 1, 1, none⟩ = false ∧
    Two w x0 x1 y0 y1 t W := by
  obtain ⟨z0, z1, hz⟩ := h.2.2.1
  have c := cells2 hz
  refine ⟨(cells2 h.1).1, (cells2 h.1).2, (cells2 h.2.1).1, (cells2 h.2.1).2, ?_, ?_, (frozen2 hz).1, (frozen2 hz).2, h⟩
  · unfold held; rw [c.1]; rfl
  · unfold held; rw [c.2]; rfl
theorem Two.of {w W : World} {x0 x1 y0 y1 : Value} {t : TypeId}
    (h : W.cell? ⟨w.heap.size, 0, none⟩ = some x0 ∧ W.cell? ⟨w.heap.size, 1, none⟩ = some x1 ∧ W.cell? ⟨w.heap.size + 1, 0, none⟩ = some y0 ∧ W.cell? ⟨w.heap.size + 1, 1, none⟩ = some y1 ∧
    W.cell? ⟨w.heap.size + 1 + 1, 0, none⟩ = some (held W (w.heap.size + 1 + 1) 0) ∧ W.cell? ⟨w.heap.size + 1 + 1, 1, none⟩ = some (held W (w.heap.size + 1 + 1) 1) ∧ W.frozen? ⟨w.heap.size + 1 + 1, 0, none⟩ = false ∧ W.frozen? ⟨w.heap.size + 1 + 1, 1, none⟩ = false ∧
    Two w x0 x1 y0 y1 t W) : Two w x0 x1 y0 y1 t W := h.2.2.2.2.2.2.2.2
theorem Three.drewN {w W : World} {A B C : Obj} (h : Three w A B C W) (n : Nat) : Three w A B C (W.drewN n) := ⟨h.1, h.2.1, h.2.2.1, below_drewN h.2.2.2 n⟩
theorem Three.drew {w W : World} {A B C : Obj} (h : Three w A B C W) : Three w A B C W.drew := ⟨h.1, h.2.1, h.2.2.1, h.2.2.2.drew⟩
theorem div_exact (n : Int) (g : Nat) (h : (g : Int) ∣ n) (hg : 1 ≤ g) (hn : n.natAbs ≤ 1152921504606846976) :
    n.tdiv (g : Int) = n / g ∧ (n / (g : Int)).natAbs ≤ 1152921504606846976 := by
  obtain ⟨k, rfl⟩ := h
  have hg0 : (g : Int) ≠ 0 := by omega
  rw [Int.mul_tdiv_cancel_left _ hg0, Int.mul_ediv_cancel_left _ hg0]
  rw [Int.natAbs_mul, Int.natAbs_natCast] at hn
  have hk : k.natAbs ≤ 1152921504606846976 := Nat.le_trans (Nat.le_mul_of_pos_left _ (by omega)) hn
  exact ⟨rfl, hk⟩
theorem pairOut_form (a b : Int) : ∃ n d e : Int, pairOut a b = .tuple #[.agg #[.int .i64 n, .int .i64 d], .int .i64 e] := by
  unfold pairOut rat
  split
  · exact ⟨a, b, 0, rfl⟩
  · exact ⟨0, 0, 14, rfl⟩
theorem far_mul {a b : Int} (ha : a.natAbs ≤ 1152921504606846976) (hb : b.natAbs ≤ 1152921504606846976) : far (a * b) := by
  unfold far
  rw [Int.natAbs_mul]
  exact Nat.le_trans (Nat.mul_le_mul ha hb) (by decide)
theorem gcd_dvd_l (n : Int) (D : Nat) : ((Nat.gcd n.natAbs D : Nat) : Int) ∣ n := Int.ofNat_dvd_left.2 (Nat.gcd_dvd_left _ _)
theorem gcd_dvd_r (n : Int) (D : Nat) : ((Nat.gcd n.natAbs D : Nat) : Int) ∣ (D : Int) := Int.natCast_dvd_natCast.2 (Nat.gcd_dvd_right _ _)

set_option maxHeartbeats 2000000 in
theorem mul_yes (n1 n2 : Int) (D1 D2 : Nat) (hx : chk n1 D1) (hy : chk n2 D2) (w : World) :
    Calls Try.prog 58 #[.agg #[.int .i64 n1, .int .i64 D1], .agg #[.int .i64 n2, .int .i64 D2]] w fun e w' => e = .returned (pairOut (n1 / (Nat.gcd n1.natAbs D2 : Nat) * (n2 / (Nat.gcd n2.natAbs D1 : Nat))) ((D1 : Int) / (Nat.gcd n2.natAbs D1 : Nat) * ((D2 : Int) / (Nat.gcd n1.natAbs D2 : Nat)))) ∧ Below w.heap.size w w' := by
  have KX := Lib.hid fun w => check_yes n1 D1 hx w
  have KY := Lib.hid fun w => check_yes n2 D2 hy w
  obtain ⟨⟨hd1, hd1'⟩, ⟨hn1, hn1'⟩, _⟩ := hx
  obtain ⟨⟨hd2, hd2'⟩, ⟨hn2, hn2'⟩, _⟩ := hy
  have hga : 1 ≤ Nat.gcd n1.natAbs D2 := Nat.gcd_pos_of_pos_right _ (by omega)
  have hgb : 1 ≤ Nat.gcd n2.natAbs D1 := Nat.gcd_pos_of_pos_right _ (by omega)
  have e1 := div_exact n1 _ (gcd_dvd_l n1 D2) hga (by omega)
  have e2 := div_exact n2 _ (gcd_dvd_l n2 D1) hgb (by omega)
  have e3 := div_exact D1 _ (gcd_dvd_r n2 D1) hgb (by omega)
  have e4 := div_exact D2 _ (gcd_dvd_r n1 D2) hga (by omega)
  generalize hq1 : n1 / ((Nat.gcd n1.natAbs D2 : Nat) : Int) = q1 at *
  generalize hq2 : n2 / ((Nat.gcd n2.natAbs D1 : Nat) : Int) = q2 at *
  generalize hq3 : (D1 : Int) / ((Nat.gcd n2.natAbs D1 : Nat) : Int) = q3 at *
  generalize hq4 : (D2 : Int) / ((Nat.gcd n1.natAbs D2 : Nat) : Int) = q4 at *
  have E := Lib.hid (And.intro e1 (And.intro e2 (And.intro e3 e4)))
  clear e1 e2 e3 e4 hq1 hq2 hq3 hq4
  go_enter Try.func58, Try.ntmps58
  go_wp2_with fail
  refine (KX.out _).mono ?_
  rintro e w1 ⟨rfl, hb1⟩
  have T1 := Lib.hid (Three.first hb1)
  obtain ⟨d0, d1⟩ := cells2 T1.out.2.1
  clear hb1
  go_wp2_with fail
  refine (KY.out _).mono ?_
  rintro e w2 ⟨rfl, hb2⟩
  have T2 := Lib.hid (T1.out.step hb2)
  clear hb2 T1 d0 d1 KX KY
  obtain ⟨a0, a1⟩ := cells2 T2.out.1
  obtain ⟨b0, b1⟩ := cells2 T2.out.2.1
  go_wp2
  go_quiet (first | (go_at_call 66; refine Calls.quiet_of_same (abs_same _ (by omega) (by omega) _)) | (go_at_call 65; refine Calls.quiet_of (gcd_draws _ _ (by omega) (by omega) _)))
  go_wp2
  have h3 := (T2.out.drewN nq).two.all
  obtain ⟨⟨e1, p1⟩, ⟨e2, p2⟩, ⟨e3, p3⟩, ⟨e4, p4⟩⟩ := E.out
  clear T2 a0 a1 b0 b1 E
  generalize w2.drewN nq = w3 at *
  generalize Nat.gcd n1.natAbs D2 = ga at *
  generalize Nat.gcd n2.natAbs D1 = gb at *
  have w1' : IntKind.i64.wrap q1 = q1 := IntWalk.i64_in _ (by omega)
  have w2' : IntKind.i64.wrap q2 = q2 := IntWalk.i64_in _ (by omega)
  have w3' : IntKind.i64.wrap q3 = q3 := IntWalk.i64_in _ (by omega)
  have w4' : IntKind.i64.wrap q4 = q4 := IntWalk.i64_in _ (by omega)
  have hga0 : ¬ ((ga : Int) = 0) := by omega
  have hgb0 : ¬ ((gb : Int) = 0) := by omega
  have hga1 : ¬ (ga = 0) := by omega
  have hgb1 : ¬ (gb = 0) := by omega
  obtain ⟨n3, d3, e3, hp⟩ := pairOut_form (q1 * q2) (q3 * q4)
  go_region_held3 (fun W => W.cell? ⟨w.heap.size, 0, none⟩ = some (.int .i64 n1) ∧ W.cell? ⟨w.heap.size, 1, none⟩ = some (.int .i64 D1) ∧ W.cell? ⟨w.heap.size + 1, 0, none⟩ = some (.int .i64 n2) ∧ W.cell? ⟨w.heap.size + 1, 1, none⟩ = some (.int .i64 D2) ∧ W.cell? ⟨w.heap.size + 1 + 1, 0, none⟩ = some (held W (w.heap.size + 1 + 1) 0) ∧ W.cell? ⟨w.heap.size + 1 + 1, 1, none⟩ = some (held W (w.heap.size + 1 + 1) 1) ∧ W.frozen? ⟨w.heap.size + 1 + 1, 0, none⟩ = false ∧ W.frozen? ⟨w.heap.size + 1 + 1, 1, none⟩ = false ∧ Two w (.int .i64 n1) (.int .i64 D1) (.int .i64 n2) (.int .i64 D2) 23 W)
    (first | exact (Two.drew (Two.of (by assumption))).all | exact (Two.step (Two.of (by assumption)) (by assumption)).all | exact (Two.store _ _ (Two.of (by assumption))).all)
    (first | (go_at_call 68; refine (times_any _ _ (by assumption) (by assumption) _).mono ?_; rintro e w' ⟨rfl, hb⟩) | (go_at_call 79; refine (pair_any _ _ (far_mul (by assumption) (by assumption)) (far_mul (by assumption) (by assumption)) _).mono ?_; rintro e w' ⟨rfl, hb⟩; have HT := Lib.hid (Two.step (Two.of (by assumption)) hb)))
  go_wp2
  obtain ⟨z0, z1, hz⟩ := HT.out.2.2.1
  refine bodyPost_ret (res_cell_tmp rfl _ _ (w.heap.size + 1 + 1) 23 _ (0, 0) _ rfl (set2 _ _ hz) Try.underlying23 rfl info23) rfl ?_
  exact ⟨by rw [hp]; rfl, (HT.out.2.2.2.setCell (by simp; omega) _).setCell (by simp; omega) _⟩
end Go.Proofs.Ytbiegbnncnjnmaa.Rat
