/- The contracts of the reference of layer 3: Add. -/
import Derived.Test.YtbiegbnncnjnmaaRatQ
import Derived.Deep.Cut
import Derived.Deep.CutBlock
import Derived.Deep.CutRange
set_option linter.unusedVariables false
set_option linter.unusedSimpArgs false
namespace Go.Proofs.Ytbiegbnncnjnmaa.Rat
open Go.RowKit

/-- Two arguments' blocks, the result's, and one more of three numbers. -/
def Twob (w : World) (x0 x1 y0 y1 : Value) (t : TypeId) (b : Nat) (c0 c1 c2 : Value) (u : TypeId) (W : World) : Prop :=
  Two w x0 x1 y0 y1 t W ∧ w.heap.size + 1 + 1 < b ∧ W.heap[b]? = some (.cells #[c0, c1, c2] u (0, 0))
theorem Twob.step {w w1 w2 : World} {x0 x1 y0 y1 c0 c1 c2 : Value} {t u : TypeId} {b : Nat} (h : Twob w x0 x1 y0 y1 t b c0 c1 c2 u w1) (hb : Below w1.heap.size w1 w2) : Twob w x0 x1 y0 y1 t b c0 c1 c2 u w2 :=
  ⟨h.1.step hb, h.2.1, (hb.block _ (Array.getElem?_eq_some_iff.1 h.2.2).1).trans h.2.2⟩
theorem Twob.drew {w W : World} {x0 x1 y0 y1 c0 c1 c2 : Value} {t u : TypeId} {b : Nat} (h : Twob w x0 x1 y0 y1 t b c0 c1 c2 u W) : Twob w x0 x1 y0 y1 t b c0 c1 c2 u W.drew := ⟨h.1.drew, h.2⟩
theorem Twob.store {w w1 : World} {x0 x1 y0 y1 c0 c1 c2 : Value} {t u : TypeId} {b : Nat} (x y : Value) (h : Twob w x0 x1 y0 y1 t b c0 c1 c2 u w1) : Twob w x0 x1 y0 y1 t b c0 c1 c2 u ((w1.setCell ⟨w.heap.size + 1 + 1, 0, none⟩ x).setCell ⟨w.heap.size + 1 + 1, 1, none⟩ y) := by
  have hlt := h.2.1
  refine ⟨h.1.store x y, h.2.1, ?_⟩
  rw [heap_setCell_other _ _ _ _ (by simp; omega), heap_setCell_other _ _ _ _ (by simp; omega)]
  exact h.2.2
theorem Twob.all {w W : World} {x0 x1 y0 y1 c0 c1 c2 : Value} {t u : TypeId} {b : Nat} (h : Twob w x0 x1 y0 y1 t b c0 c1 c2 u W) :
    W.cell? ⟨w.heap.size, 0, none⟩ = some x0 ∧ W.cell? ⟨w.heap.size, 1, none⟩ = some x1 ∧ W.cell? ⟨w.heap.size + 1, 0, none⟩ = some y0 ∧ W.cell? ⟨w.heap.size + 1, 1, none⟩ = some y1 ∧
    W.cell? ⟨w.heap.size + 1 + 1, 0, none⟩ = some (held W (w.heap.size + 1 + 1) 0) ∧ W.cell? ⟨w.heap.size + 1 + 1, 1, none⟩ = some (held W (w.heap.size + 1 + 1) 1) ∧ W.frozen? ⟨w.heap.size + 1 + 1, 0, none⟩ = false ∧ W.frozen? ⟨w.heap.size + 1 + 1, 1, none⟩ = false ∧
    W.cell? ⟨b, 0, none⟩ = some c0 ∧ W.cell? ⟨b, 1, none⟩ = some c1 ∧ W.cell? ⟨b, 2, none⟩ = some c2 ∧
    Twob w x0 x1 y0 y1 t b c0 c1 c2 u W :=
  have h8 := h.1.all
  have h3 := cells3 h.2.2
  ⟨h8.1, h8.2.1, h8.2.2.1, h8.2.2.2.1, h8.2.2.2.2.1, h8.2.2.2.2.2.1, h8.2.2.2.2.2.2.1, h8.2.2.2.2.2.2.2.1, h3.1, h3.2.1, h3.2.2, h⟩
theorem Twob.of {w W : World} {x0 x1 y0 y1 c0 c1 c2 : Value} {t u : TypeId} {b : Nat}
    (h : W.cell? ⟨w.heap.size, 0, none⟩ = some x0 ∧ W.cell? ⟨w.heap.size, 1, none⟩ = some x1 ∧ W.cell? ⟨w.heap.size + 1, 0, none⟩ = some y0 ∧ W.cell? ⟨w.heap.size + 1, 1, none⟩ = some y1 ∧
    W.cell? ⟨w.heap.size + 1 + 1, 0, none⟩ = some (held W (w.heap.size + 1 + 1) 0) ∧ W.cell? ⟨w.heap.size + 1 + 1, 1, none⟩ = some (held W (w.heap.size + 1 + 1) 1) ∧ W.frozen? ⟨w.heap.size + 1 + 1, 0, none⟩ = false ∧ W.frozen? ⟨w.heap.size + 1 + 1, 1, none⟩ = false ∧
    W.cell? ⟨b, 0, none⟩ = some c0 ∧ W.cell? ⟨b, 1, none⟩ = some c1 ∧ W.cell? ⟨b, 2, none⟩ = some c2 ∧
    Twob w x0 x1 y0 y1 t b c0 c1 c2 u W) : Twob w x0 x1 y0 y1 t b c0 c1 c2 u W := h.2.2.2.2.2.2.2.2.2.2.2
theorem Two.lt {w W : World} {x0 x1 y0 y1 a b c : Value} (h : Two w x0 x1 y0 y1 23 (W.alloc (.cells #[a, b, c] 71))) : w.heap.size + 1 + 1 < W.heap.size := by
  obtain ⟨z0, z1, hz⟩ := h.2.2.1
  have h1 := (Array.getElem?_eq_some_iff.1 hz).1
  rw [World.size_alloc] at h1
  rcases Nat.lt_or_ge (w.heap.size + 1 + 1) W.heap.size with h2 | h2
  · exact h2
  · have e : w.heap.size + 1 + 1 = W.heap.size := by omega
    rw [e, heap_alloc_new] at hz
    simp at hz
theorem Two.realloc {w W : World} {x0 x1 y0 y1 a b c a' b' c' : Value} (h : Two w x0 x1 y0 y1 23 (W.alloc (.cells #[a, b, c] 71))) : Two w x0 x1 y0 y1 23 (W.alloc (.cells #[a', b', c'] 71)) := by
  have hlt := h.lt
  obtain ⟨h1, h2, ⟨z0, z1, h3⟩, h4⟩ := h
  rw [heap_alloc_old _ _ (by omega)] at h1 h2 h3
  refine ⟨?_, ?_, ⟨z0, z1, ?_⟩, ⟨h4.os, h4.tape, h4.output, by rw [World.size_alloc]; omega, fun k hk => ?_⟩⟩
  · rw [heap_alloc_old _ _ (by omega)]; exact h1
  · rw [heap_alloc_old _ _ (by omega)]; exact h2
  · rw [heap_alloc_old _ _ (by omega)]; exact h3
  · have h5 := h4.block k hk
    rw [heap_alloc_old _ _ (by omega)] at h5 ⊢
    exact h5
theorem Two.store3 {w W : World} {x0 x1 y0 y1 : Value} {t : TypeId} {g : Nat} (x y z : Value) (h : Two w x0 x1 y0 y1 t W) (hg : w.heap.size + 1 + 1 < g) : Two w x0 x1 y0 y1 t (((W.setCell ⟨g, 0, none⟩ x).setCell ⟨g, 1, none⟩ y).setCell ⟨g, 2, none⟩ z) := by
  obtain ⟨h1, h2, ⟨z0, z1, h3⟩, h4⟩ := h
  refine ⟨?_, ?_, ⟨z0, z1, ?_⟩, ((h4.setCell (by simp; omega) _).setCell (by simp; omega) _).setCell (by simp; omega) _⟩
  · rw [heap_setCell_other _ _ _ _ (by simp; omega), heap_setCell_other _ _ _ _ (by simp; omega), heap_setCell_other _ _ _ _ (by simp; omega)]; exact h1
  · rw [heap_setCell_other _ _ _ _ (by simp; omega), heap_setCell_other _ _ _ _ (by simp; omega), heap_setCell_other _ _ _ _ (by simp; omega)]; exact h2
  · rw [heap_setCell_other _ _ _ _ (by simp; omega), heap_setCell_other _ _ _ _ (by simp; omega), heap_setCell_other _ _ _ _ (by simp; omega)]; exact h3
/-- A block of three cells that the call has laid. -/
def Blk (w W : World) (g : Nat) (a b c : Value) : Prop := W.heap[g]? = some (.cells #[a, b, c] 71 (0, 0)) ∧ w.heap.size + 1 + 1 < g
theorem Blk.all {w W : World} {g : Nat} {a b c : Value} (h : Blk w W g a b c) : W.cell? ⟨g, 0, none⟩ = some a ∧ W.cell? ⟨g, 1, none⟩ = some b ∧ W.cell? ⟨g, 2, none⟩ = some c ∧ W.frozen? ⟨g, 0, none⟩ = false ∧ W.frozen? ⟨g, 1, none⟩ = false ∧ W.frozen? ⟨g, 2, none⟩ = false ∧ Blk w W g a b c :=
  ⟨(cells3 h.1).1, (cells3 h.1).2.1, (cells3 h.1).2.2, frozen_of_row _ _ _ _ _ h.1, frozen_of_row _ _ _ _ _ h.1, frozen_of_row _ _ _ _ _ h.1, h⟩
theorem Blk.new {w W W2 : World} {x0 x1 y0 y1 a b c : Value} (h : Two w x0 x1 y0 y1 23 (W.alloc (.cells #[a, b, c] 71))) (hb : Below (W.alloc (.cells #[a, b, c] 71)).heap.size (W.alloc (.cells #[a, b, c] 71)) W2) : Blk w W2 W.heap.size a b c :=
  ⟨(hb.block _ (by simp)).trans (heap_alloc_new W _), h.lt⟩
theorem Two.undrew {w W : World} {x0 x1 y0 y1 : Value} {t : TypeId} (h : Two w x0 x1 y0 y1 t W.drew) : Two w x0 x1 y0 y1 t W := ⟨h.1, h.2.1, h.2.2.1, ⟨h.2.2.2.os, h.2.2.2.tape, h.2.2.2.output, h.2.2.2.size, h.2.2.2.block⟩⟩
theorem Blk.newd {w W W2 : World} {x0 x1 y0 y1 a b c : Value} (h : Two w x0 x1 y0 y1 23 (W.alloc (.cells #[a, b, c] 71)).drew) (hb : Below (W.alloc (.cells #[a, b, c] 71)).drew.heap.size (W.alloc (.cells #[a, b, c] 71)).drew W2) : Blk w W2 W.heap.size a b c :=
  ⟨(hb.block _ (by show W.heap.size < (W.alloc _).heap.size; simp)).trans (heap_alloc_new W _), h.undrew.lt⟩
theorem Blk.pass {w W W2 : World} {g : Nat} {a b c : Value} (h : Blk w W g a b c) (hb : Below W.heap.size W W2) : Blk w W2 g a b c := ⟨(hb.block _ (Array.getElem?_eq_some_iff.1 h.1).1).trans h.1, h.2⟩
theorem Blk.of {w W : World} {g : Nat} {a b c : Value} (h : W.cell? ⟨g, 0, none⟩ = some a ∧ W.cell? ⟨g, 1, none⟩ = some b ∧ W.cell? ⟨g, 2, none⟩ = some c ∧ W.frozen? ⟨g, 0, none⟩ = false ∧ W.frozen? ⟨g, 1, none⟩ = false ∧ W.frozen? ⟨g, 2, none⟩ = false ∧ Blk w W g a b c) : Blk w W g a b c := h.2.2.2.2.2.2
theorem wid_form (z : Int) : ∃ x y v : Int, wid z = .agg #[.int .i64 x, .int .i64 y, .int .i64 v] := ⟨_, _, _, rfl⟩

set_option maxHeartbeats 4000000 in
theorem add_yes (n1 n2 : Int) (D1 D2 : Nat) (hx : chk n1 D1) (hy : chk n2 D2) (w : World) (num : Int) (t : Nat) (hnum : num = n1 * ((D2 : Int) / (Nat.gcd D1 D2 : Nat)) + n2 * ((D1 : Int) / (Nat.gcd D1 D2 : Nat))) (ht : t = Nat.gcd (Nat.gcd D1 D2) num.natAbs) :
    Calls Try.prog 57 #[.agg #[.int .i64 n1, .int .i64 D1], .agg #[.int .i64 n2, .int .i64 D2]] w fun e w' => e = .returned (pairOut (num / t) ((D1 : Int) / (Nat.gcd D1 D2 : Nat) * ((D2 : Int) / t))) ∧ Below w.heap.size w w' := by
  have KX := Lib.hid fun w => check_yes n1 D1 hx w
  have KY := Lib.hid fun w => check_yes n2 D2 hy w
  obtain ⟨⟨hd1, hd1'⟩, ⟨hn1, hn1'⟩, _⟩ := hx
  obtain ⟨⟨hd2, hd2'⟩, ⟨hn2, hn2'⟩, _⟩ := hy
  have hg1 : 1 ≤ Nat.gcd D1 D2 := Nat.gcd_pos_of_pos_right _ (by omega)
  have hg2 : Nat.gcd D1 D2 ≤ D2 := Nat.gcd_le_right _ (by omega)
  have hgl : ((Nat.gcd D1 D2 : Nat) : Int) ∣ (D1 : Int) := Int.natCast_dvd_natCast.2 (Nat.gcd_dvd_left _ _)
  have hgr : ((Nat.gcd D1 D2 : Nat) : Int) ∣ (D2 : Int) := Int.natCast_dvd_natCast.2 (Nat.gcd_dvd_right _ _)
  have htg : t ∣ Nat.gcd D1 D2 := by rw [ht]; exact Nat.gcd_dvd_left _ _
  have ht1 : 1 ≤ t := Nat.pos_of_dvd_of_pos htg hg1
  have htr : ((t : Nat) : Int) ∣ (D2 : Int) := Int.dvd_trans (Int.natCast_dvd_natCast.2 htg) hgr
  have htn : ((t : Nat) : Int) ∣ num := Int.ofNat_dvd_left.2 (by rw [ht]; exact Nat.gcd_dvd_right _ _)
  have ht2 : t ≤ Nat.gcd D1 D2 := Nat.le_of_dvd hg1 htg
  have e1 := div_exact D2 _ hgr hg1 (by omega)
  have e2 := div_exact D1 _ hgl hg1 (by omega)
  have e3 := div_exact D2 _ htr ht1 (by omega)
  have G := Lib.hid fun w => gcd_any D1 D2 (by omega) (by omega) w
  have hmod : Nat.gcd (Nat.gcd D1 D2) (num.natAbs % Nat.gcd D1 D2) = t := by rw [ht, Nat.gcd_comm, ← Nat.gcd_rec]
  generalize hq1 : (D2 : Int) / ((Nat.gcd D1 D2 : Nat) : Int) = q1 at *
  generalize hq2 : (D1 : Int) / ((Nat.gcd D1 D2 : Nat) : Int) = q2 at *
  generalize hq3 : (D2 : Int) / (t : Int) = q3 at *
  generalize Nat.gcd D1 D2 = g at *
  clear hq1 hq2 hq3 ht hgl hgr htg htr
  have hfn : far num := by rw [hnum]; exact far_add (by omega) e1.2 (by omega) e2.2
  have G2 := Lib.hid fun w => gcd_any g (num.natAbs % g) (by omega) (by have := Nat.mod_lt num.natAbs (show 0 < g by omega); omega) w
  rw [hmod] at G2
  have O1 := Lib.hid fun w => over_any num g hfn hg1 (by omega) w
  have O2 := Lib.hid fun w => over_exact num t hfn ht1 (by omega) htn w
  have hfd : far (num / t) := far_div hfn ht1 htn
  have P := Lib.hid fun w => pair_any (num / t) (q2 * q3) hfd (far_mul e2.2 e3.2) w
  have PL := Lib.hid fun w => plus_any (n1 * q1) (n2 * q2) (far_mul (by omega) e1.2) (far_mul (by omega) e2.2) w
  rw [← hnum] at PL
  obtain ⟨nx, ny, nz, hwn⟩ := wid_form num
  obtain ⟨mx, my, mz, hwm⟩ := wid_form (num / t)
  obtain ⟨px, py, pz, hp⟩ := pairOut_form (num / t) (q2 * q3)
  rw [hwn] at O1 O2 PL
  rw [hwm] at O2 P
  rw [hp] at P ⊢
  generalize ((num.natAbs / g / 1152921504606846976 : Nat) : Int) = ox at *
  generalize ((num.natAbs / g % 1152921504606846976 : Nat) : Int) = oy at *
  generalize num.natAbs % g = r at *
  clear hwn hwm hp hmod hfn hfd hnum htn
  generalize num.sign = sg at *
  have E := Lib.hid (And.intro e1 (And.intro e2 e3))
  clear e1 e2 e3
  go_enter Try.func57, Try.ntmps57
  go_wp2_with fail
  refine (KX.out _).mono ?_
  rintro e w1 ⟨rfl, hb1⟩
  have T1 := Lib.hid (Three.first hb1)
  obtain ⟨d0, d1⟩ := cells2 T1.out.2.1
  clear hb1
  go_wp2_with fail
  refine (KY.out _).mono ?_
  rintro e w2 ⟨rfl, hb2⟩
  have T2 := Lib.hid (T1.out.step hb2)
  clear hb2 T1 d0 d1 KX KY
  obtain ⟨a0, a1⟩ := cells2 T2.out.1
  obtain ⟨b0, b1⟩ := cells2 T2.out.2.1
  go_wp2_with fail
  refine (G.out _).mono ?_
  rintro e w3 ⟨rfl, hb3⟩
  have h3 := (T2.out.step hb3).two.all
  clear hb3 T2 a0 a1 b0 b1 G
  go_wp2
  obtain ⟨⟨e1, p1⟩, ⟨e2, p2⟩, ⟨e3, p3⟩⟩ := E.out
  have m1 : n1.natAbs ≤ 1152921504606846976 := by omega
  have m2 : n2.natAbs ≤ 1152921504606846976 := by omega
  have w1' : IntKind.i64.wrap q1 = q1 := IntWalk.i64_in _ (by omega)
  have w2' : IntKind.i64.wrap q2 = q2 := IntWalk.i64_in _ (by omega)
  have hga0 : ¬ ((g : Int) = 0) := by omega
  have hga1 : ¬ (g = 0) := by omega
  go_cut [7] from 27 to 41 (fun v7 wx => ∃ b : Nat, v7 = .pointer (some ⟨b, 0, none⟩) ∧ Two w (.int .i64 n1) (.int .i64 D1) (.int .i64 n2) (.int .i64 D2) 23 wx ∧ Blk w wx b (.int .i64 nx) (.int .i64 ny) (.int .i64 nz))
  case first =>
    go_region_held3 (fun W => W.cell? ⟨w.heap.size, 0, none⟩ = some (.int .i64 n1) ∧ W.cell? ⟨w.heap.size, 1, none⟩ = some (.int .i64 D1) ∧ W.cell? ⟨w.heap.size + 1, 0, none⟩ = some (.int .i64 n2) ∧ W.cell? ⟨w.heap.size + 1, 1, none⟩ = some (.int .i64 D2) ∧ W.cell? ⟨w.heap.size + 1 + 1, 0, none⟩ = some (held W (w.heap.size + 1 + 1) 0) ∧ W.cell? ⟨w.heap.size + 1 + 1, 1, none⟩ = some (held W (w.heap.size + 1 + 1) 1) ∧ W.frozen? ⟨w.heap.size + 1 + 1, 0, none⟩ = false ∧ W.frozen? ⟨w.heap.size + 1 + 1, 1, none⟩ = false ∧ Two w (.int .i64 n1) (.int .i64 D1) (.int .i64 n2) (.int .i64 D2) 23 W)
      (first | exact (Two.drew (Two.of (by assumption))).all | exact (Two.step (Two.of (by assumption)) (by assumption)).all | exact (Two.realloc (Two.of (by assumption))).all | exact (Two.step (Two.of (by assumption)) ((Below.refl _ _).alloc (Nat.le_refl _) _)).all | exact (Two.store3 _ _ _ (Two.of (by assumption)) (Blk.of (by assumption)).2).all)
      (first | (go_at_call 68; refine (times_any _ _ (by assumption) (by assumption) _).mono ?_; rintro e w' ⟨rfl, hb⟩; first | (have nb := (Blk.new (Two.of (by assumption)) hb).all) | (have nb := (Blk.newd (Two.of (by assumption)) hb).all) | (have nb := (Blk.pass (Blk.of (by assumption)) hb).all) | skip) | (go_at_call 67; refine (PL.out _).mono ?_; rintro e w' ⟨rfl, hb⟩; first | (have nb := (Blk.new (Two.of (by assumption)) hb).all) | (have nb := (Blk.newd (Two.of (by assumption)) hb).all) | (have nb := (Blk.pass (Blk.of (by assumption)) hb).all) | skip))
    all_goals go_wp2
    all_goals go_meet
    all_goals first | exact ⟨_, rfl, Two.of (by assumption), ⟨set3 _ _ _ (Blk.of (by assumption)).1, (Blk.of (by assumption)).2⟩⟩ | exact ⟨_, rfl, Two.of (by assumption), ⟨heap_alloc_new _ _, (Two.of (by assumption)).lt⟩⟩
  case rest =>
    obtain ⟨b, rfl, hT, hBk⟩ := hcut
    have HT := Lib.hid hT
    have HK := Lib.hid hBk
    obtain ⟨c0, c1, c2, _, _, _, _⟩ := hBk.all
    clear hT hBk h3
    go_wp2_with fail
    refine (O1.out _).mono ?_
    rintro e w5 ⟨rfl, hb5⟩
    have HT5 := Lib.hid (HT.out.step hb5)
    have HK5 := Lib.hid (HK.out.pass hb5)
    clear hb5 HT HK c0 c1 c2 O1
    go_wp2_with fail
    refine (G2.out _).mono ?_
    rintro e w6 ⟨rfl, hb6⟩
    have HT6 := Lib.hid ((HT5.out.step ((Below.refl _ _).alloc (Nat.le_refl _) _)).step hb6)
    have HK6 := Lib.hid ((HK5.out.pass ((Below.refl _ _).alloc (Nat.le_refl _) _)).pass hb6)
    clear hb6 HT5 HK5 G2
    obtain ⟨c0, c1, c2, _, _, _, _⟩ := HK6.out.all
    go_wp2_with fail
    refine (O2.out _).mono ?_
    rintro e w7 ⟨rfl, hb7⟩
    have HT7 := Lib.hid (HT6.out.step hb7)
    clear hb7 HT6 HK6 c0 c1 c2 O2
    go_wp2
    have h8 : Twob w (.int .i64 n1) (.int .i64 D1) (.int .i64 n2) (.int .i64 D2) 23 w7.heap.size (.int .i64 mx) (.int .i64 my) (.int .i64 mz) 71 (w7.alloc (.cells #[.int .i64 mx, .int .i64 my, .int .i64 mz] 71)) := by
      refine ⟨HT7.out.step ((Below.refl _ _).alloc (Nat.le_refl _) _), ?_, heap_alloc_new _ _⟩
      obtain ⟨z0, z1, hz⟩ := HT7.out.2.2.1
      exact (Array.getElem?_eq_some_iff.1 hz).1
    have h9 := h8.all
    clear h8 HT7
    generalize w7.alloc (.cells #[.int .i64 mx, .int .i64 my, .int .i64 mz] 71) = w8 at *
    generalize w7.heap.size = bb at *
    have w3' : IntKind.i64.wrap q3 = q3 := IntWalk.i64_in _ (by omega)
    have hta0 : ¬ ((t : Int) = 0) := by omega
    have hta1 : ¬ (t = 0) := by omega
    go_region_held3 (fun W => W.cell? ⟨w.heap.size, 0, none⟩ = some (.int .i64 n1) ∧ W.cell? ⟨w.heap.size, 1, none⟩ = some (.int .i64 D1) ∧ W.cell? ⟨w.heap.size + 1, 0, none⟩ = some (.int .i64 n2) ∧ W.cell? ⟨w.heap.size + 1, 1, none⟩ = some (.int .i64 D2) ∧ W.cell? ⟨w.heap.size + 1 + 1, 0, none⟩ = some (held W (w.heap.size + 1 + 1) 0) ∧ W.cell? ⟨w.heap.size + 1 + 1, 1, none⟩ = some (held W (w.heap.size + 1 + 1) 1) ∧ W.frozen? ⟨w.heap.size + 1 + 1, 0, none⟩ = false ∧ W.frozen? ⟨w.heap.size + 1 + 1, 1, none⟩ = false ∧ W.cell? ⟨bb, 0, none⟩ = some (.int .i64 mx) ∧ W.cell? ⟨bb, 1, none⟩ = some (.int .i64 my) ∧ W.cell? ⟨bb, 2, none⟩ = some (.int .i64 mz) ∧ Twob w (.int .i64 n1) (.int .i64 D1) (.int .i64 n2) (.int .i64 D2) 23 bb (.int .i64 mx) (.int .i64 my) (.int .i64 mz) 71 W)
      (first | exact (Twob.drew (Twob.of (by assumption))).all | exact (Twob.step (Twob.of (by assumption)) (by assumption)).all | exact (Twob.store _ _ (Twob.of (by assumption))).all)
      (first | (go_at_call 68; refine (times_any _ _ (by assumption) (by assumption) _).mono ?_; rintro e w' ⟨rfl, hb⟩) | (go_at_call 79; refine (P.out _).mono ?_; rintro e w' ⟨rfl, hb⟩; have HZ := Lib.hid (Twob.step (Twob.of (by assumption)) hb)))
    go_wp2
    obtain ⟨z0, z1, hz⟩ := HZ.out.1.2.2.1
    refine bodyPost_ret (res_cell_tmp rfl _ _ (w.heap.size + 1 + 1) 23 _ (0, 0) _ rfl (set2 _ _ hz) Try.underlying23 rfl info23) rfl ?_
    exact ⟨rfl, (HZ.out.1.2.2.2.setCell (by simp; omega) _).setCell (by simp; omega) _⟩
end Go.Proofs.Ytbiegbnncnjnmaa.Rat
