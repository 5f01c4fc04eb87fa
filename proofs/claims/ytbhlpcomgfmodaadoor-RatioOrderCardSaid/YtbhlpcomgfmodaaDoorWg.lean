/- The walks of the laws of layer 3: Order. -/
import Derived.Test.YtbhlpcomgfmodaaDoorWr
import Derived.Test.YtbhlpcomgfmodaaDoorPX
import Derived.Deep.DeepCutAuto
set_option linter.unusedVariables false
set_option linter.unusedSimpArgs false
namespace Go.Proofs.YtbhlpcomgfmodaaDoor.Pro
open Go.RowKit

/-- The first of four blocks is set anew, cell by cell. -/
theorem Has.put {w V : World} {L M : List (Nat × Array Value × TypeId)} {g : Nat} {a b a' b' : Int} (h : Has w L V) (hL : ∀ x ∈ (g, #[.int .i64 a, .int .i64 b], 23) :: M, x ∈ L) (hM : ∀ x ∈ M, x.1 ≠ g) :
    Has w ((g, #[.int .i64 a', .int .i64 b'], 23) :: M) ((V.setCell ⟨g, 0, none⟩ (.int .i64 a')).setCell ⟨g, 1, none⟩ (.int .i64 b')) := by
  have h1 := (h.sub hL).set hM 0 (.int .i64 a')
  have h2 := h1.set hM 1 (.int .i64 b')
  exact h2
def cmpQ (X Y : _root_.Rat) : Int := if X < Y then -1 else if Y < X then 1 else 0
theorem cmp_chk {n1 n2 : Int} {D1 D2 : Nat} (hx : Rat.chk n1 D1) (hy : Rat.chk n2 D2) : Rat.cmpOut n1 D1 n2 D2 = cmpQ (Rat.toQ n1 D1) (Rat.toQ n2 D2) := by
  unfold Rat.cmpOut
  rw [if_pos ⟨hx, hy⟩, Int.toNat_natCast, Int.toNat_natCast]
  rfl
theorem cmpQ_le {X Y : _root_.Rat} : cmpQ X Y ≤ 0 ↔ X ≤ Y := by
  unfold cmpQ
  by_cases h1 : X < Y
  · rw [if_pos h1]
    exact ⟨fun _ => Rat.le_of_lt h1, fun _ => by decide⟩
  · rw [if_neg h1]
    by_cases h2 : Y < X
    · rw [if_pos h2]
      exact ⟨fun h => absurd h (by decide), fun h => absurd h2 (Rat.not_lt.2 h)⟩
    · rw [if_neg h2]
      exact ⟨fun _ => Rat.not_lt.1 h2, fun _ => by decide⟩
theorem cmpQ_range (X Y : _root_.Rat) : -1 ≤ cmpQ X Y ∧ cmpQ X Y ≤ 1 := by
  unfold cmpQ
  split
  · decide
  · split <;> decide
theorem cmpQ_neg (X Y : _root_.Rat) : cmpQ Y X = -cmpQ X Y := by
  unfold cmpQ
  by_cases h1 : X < Y
  · have h2 : ¬ Y < X := Rat.not_lt.2 (Rat.le_of_lt h1)
    rw [if_pos h1, if_neg h2, if_pos h1]; rfl
  · by_cases h2 : Y < X
    · rw [if_pos h2, if_neg h1, if_pos h2]
    · rw [if_neg h2, if_neg h1, if_neg h1, if_neg h2]; rfl
theorem cmpQ_zero {X Y : _root_.Rat} : cmpQ X Y = 0 ↔ X = Y := by
  constructor
  · intro h
    have h1 : cmpQ Y X = 0 := by rw [cmpQ_neg, h]; rfl
    exact Rat.le_antisymm (cmpQ_le.1 (by omega)) (cmpQ_le.1 (by omega))
  · rintro rfl
    unfold cmpQ
    rw [if_neg Rat.lt_irrefl, if_neg Rat.lt_irrefl]
theorem cmpQ_add (X Y Z : _root_.Rat) : cmpQ (X + Z) (Y + Z) = cmpQ X Y := by
  unfold cmpQ
  simp only [Rat.add_lt_add_right]
theorem cmpQ_mul (X Y : _root_.Rat) {Z : _root_.Rat} (h : 0 < Z) : cmpQ (X * Z) (Y * Z) = cmpQ X Y := by
  unfold cmpQ
  simp only [Rat.mul_lt_mul_right h]
/-- What a reference's result says of the fraction that it holds. -/
theorem op_chk (q : _root_.Rat → _root_.Rat → _root_.Rat) {n1 n2 : Int} {D1 D2 : Nat} (hx : Rat.chk n1 D1) (hy : Rat.chk n2 D2) :
    ∃ a b e : Int, Rat.opOut q n1 D1 n2 D2 = .tuple #[.agg #[.int .i64 a, .int .i64 b], .int .i64 e] ∧ (e = 0 → ∃ B : Nat, b = B ∧ Rat.chk a B ∧ Rat.toQ a B = q (Rat.toQ n1 D1) (Rat.toQ n2 D2)) := by
  rw [Rat.opOut_yes ⟨hx, hy⟩, Int.toNat_natCast, Int.toNat_natCast]
  by_cases h : Rat.FitsQ (q (Rat.toQ n1 D1) (Rat.toQ n2 D2))
  · rw [Rat.outQ_yes h]
    exact ⟨_, _, 0, rfl, fun _ => ⟨_, rfl, Rat.valid_chk (Rat.valid_of_fits h), Rat.toQ_self _⟩⟩
  · rw [Rat.outQ_no h]
    exact ⟨0, 0, 14, rfl, fun h => by cases h⟩
theorem toQ_pos {n : Int} {D : Nat} (h : Rat.chk n D) (hn : 0 < n) : 0 < Rat.toQ n D := by
  have h0 : Rat.chk 0 ((1 : Nat) : Int) := by decide
  have h1 := (Rat.toQ_lt h0 h).2 (by omega)
  have h2 : Rat.toQ 0 1 = 0 := by decide
  rw [h2] at h1
  exact h1
theorem start3 (w : World) (a1 b1 a2 b2 a3 b3 : Int) :
    Has w [(w.heap.size, #[.int .i64 a1, .int .i64 b1], 23), (w.heap.size + 1, #[.int .i64 a2, .int .i64 b2], 23), (w.heap.size + 1 + 1, #[.int .i64 a3, .int .i64 b3], 23)]
      (((w.alloc (.cells #[.int .i64 a1, .int .i64 b1] 23)).alloc (.cells #[.int .i64 a2, .int .i64 b2] 23)).alloc (.cells #[.int .i64 a3, .int .i64 b3] 23)) := by
  have h := (((Has.start w).alloc #[.int .i64 a1, .int .i64 b1] 23).alloc #[.int .i64 a2, .int .i64 b2] 23).alloc #[.int .i64 a3, .int .i64 b3] 23
  simp only [World.size_alloc] at h
  exact h.sub (by simp)
set_option maxHeartbeats 4000000 in
set_option maxRecDepth 100000 in
theorem olaw_out (n1 d1 n2 d2 n3 d3 c1 c2 c3 : Int) (h : (¬ c1 = 0) ∨ (c1 = 0 ∧ ¬ c2 = 0) ∨ (c1 = 0 ∧ c2 = 0 ∧ ¬ c3 = 0))
    (K1 : Hid (∀ w : World, Calls Tryd.prog 14 #[.agg #[.int .i64 n1, .int .i64 d1]] w fun e w' => e = .returned (.int .i64 c1) ∧ Below w.heap.size w w'))
    (K2 : Hid (∀ w : World, Calls Tryd.prog 14 #[.agg #[.int .i64 n2, .int .i64 d2]] w fun e w' => e = .returned (.int .i64 c2) ∧ Below w.heap.size w w'))
    (K3 : Hid (∀ w : World, Calls Tryd.prog 14 #[.agg #[.int .i64 n3, .int .i64 d3]] w fun e w' => e = .returned (.int .i64 c3) ∧ Below w.heap.size w w'))
    (w : World) (ht : T10 w) :
    Calls Tryd.prog 8 #[.agg #[.int .i64 n1, .int .i64 d1], .agg #[.int .i64 n2, .int .i64 d2], .agg #[.int .i64 n3, .int .i64 d3]] w fun e w' => e = .returned (.bool true) ∧ Below w.heap.size w w' := by
  have HT := Lib.hid ht
  clear ht
  have T0 := Lib.hid (start3 w n1 d1 n2 d2 n3 d3)
  rcases h with k1 | ⟨rfl, k1⟩ | ⟨rfl, rfl, k1⟩
  · go_enter Tryd.func8, Tryd.ntmps8
    go_wp2_with fail
    with_reducible refine (K1.out _).mono ?_
    rintro e w1 ⟨rfl, hb⟩
    have T1 := Lib.hid (T0.out.step hb)
    clear hb T0
    go_wp2_with fail
    with_reducible refine (awake_any _ (HT.out.below (Has.b T1.out))).mono ?_
    rintro e w9 ⟨rfl, hb⟩
    have T9 := Lib.hid (T1.out.step hb)
    clear hb T1
    go_wp2
    go_ret
    exact ⟨rfl, Has.b T9.out⟩
  · go_enter Tryd.func8, Tryd.ntmps8
    go_wp2_with fail
    with_reducible refine (K1.out _).mono ?_
    rintro e w1 ⟨rfl, hb⟩
    have T1 := Lib.hid (T0.out.step hb)
    clear hb T0
    obtain ⟨v0, v1⟩ := cells2 (T1.out.row (b := w.heap.size + 1) (cs := #[.int .i64 n2, .int .i64 d2]) (t := 23) (by simp))
    go_wp2_with fail
    with_reducible refine (K2.out _).mono ?_
    rintro e w2 ⟨rfl, hb⟩
    have T2 := Lib.hid (T1.out.step hb)
    clear hb T1 v0 v1
    go_wp2_with fail
    with_reducible refine (awake_any _ (HT.out.below (Has.b T2.out))).mono ?_
    rintro e w9 ⟨rfl, hb⟩
    have T9 := Lib.hid (T2.out.step hb)
    clear hb T2
    go_wp2
    go_ret
    exact ⟨rfl, Has.b T9.out⟩
  · go_enter Tryd.func8, Tryd.ntmps8
    go_wp2_with fail
    with_reducible refine (K1.out _).mono ?_
    rintro e w1 ⟨rfl, hb⟩
    have T1 := Lib.hid (T0.out.step hb)
    clear hb T0
    obtain ⟨v0, v1⟩ := cells2 (T1.out.row (b := w.heap.size + 1) (cs := #[.int .i64 n2, .int .i64 d2]) (t := 23) (by simp))
    go_wp2_with fail
    with_reducible refine (K2.out _).mono ?_
    rintro e w2 ⟨rfl, hb⟩
    have T2 := Lib.hid (T1.out.step hb)
    clear hb T1 v0 v1
    obtain ⟨z0, z1⟩ := cells2 (T2.out.row (b := w.heap.size + 1 + 1) (cs := #[.int .i64 n3, .int .i64 d3]) (t := 23) (by simp))
    go_wp2_with fail
    with_reducible refine (K3.out _).mono ?_
    rintro e w3 ⟨rfl, hb⟩
    have T3 := Lib.hid (T2.out.step hb)
    clear hb T2 z0 z1
    go_wp2_with fail
    with_reducible refine (awake_any _ (HT.out.below (Has.b T3.out))).mono ?_
    rintro e w9 ⟨rfl, hb⟩
    have T9 := Lib.hid (T3.out.step hb)
    clear hb T3
    go_wp2
    go_ret
    exact ⟨rfl, Has.b T9.out⟩
set_option maxHeartbeats 4000000 in
set_option maxRecDepth 100000 in
theorem olaw_raw (n1 d1 n2 d2 n3 d3 c cn m l a b e a2 b2 f ma mb me ma2 mb2 mf : Int)
    (r1 : ¬ c < -1) (r2 : ¬ 1 < c) (hneg : IntKind.i64.wrap (-c) = cn)
    (hc : (c = 0 ∧ cn = 0 ∧ n2 = n1 ∧ d2 = d1) ∨ (¬ c = 0 ∧ ¬ n1 = n2) ∨ (¬ c = 0 ∧ n2 = n1 ∧ ¬ d1 = d2)) (htr : c ≤ 0 → m ≤ 0 → l ≤ 0)
    (K1 : Hid (∀ w : World, Calls Tryd.prog 14 #[.agg #[.int .i64 n1, .int .i64 d1]] w fun e w' => e = .returned (.int .i64 0) ∧ Below w.heap.size w w'))
    (K2 : Hid (∀ w : World, Calls Tryd.prog 14 #[.agg #[.int .i64 n2, .int .i64 d2]] w fun e w' => e = .returned (.int .i64 0) ∧ Below w.heap.size w w'))
    (K3 : Hid (∀ w : World, Calls Tryd.prog 14 #[.agg #[.int .i64 n3, .int .i64 d3]] w fun e w' => e = .returned (.int .i64 0) ∧ Below w.heap.size w w'))
    (CXY : Hid (∀ w : World, Calls Tryd.prog 28 #[.agg #[.int .i64 n1, .int .i64 d1], .agg #[.int .i64 n2, .int .i64 d2]] w fun e w' => e = .returned (.int .i64 c) ∧ Below w.heap.size w w'))
    (CYX : Hid (∀ w : World, Calls Tryd.prog 28 #[.agg #[.int .i64 n2, .int .i64 d2], .agg #[.int .i64 n1, .int .i64 d1]] w fun e w' => e = .returned (.int .i64 cn) ∧ Below w.heap.size w w'))
    (CYZ : Hid (∀ w : World, Calls Tryd.prog 28 #[.agg #[.int .i64 n2, .int .i64 d2], .agg #[.int .i64 n3, .int .i64 d3]] w fun e w' => e = .returned (.int .i64 m) ∧ Below w.heap.size w w'))
    (CXZ : Hid (∀ w : World, Calls Tryd.prog 28 #[.agg #[.int .i64 n1, .int .i64 d1], .agg #[.int .i64 n3, .int .i64 d3]] w fun e w' => e = .returned (.int .i64 l) ∧ Below w.heap.size w w'))
    (AX : Hid (∀ w : World, Calls Tryd.prog 20 #[.agg #[.int .i64 n1, .int .i64 d1], .agg #[.int .i64 n3, .int .i64 d3]] w fun r w' => r = .returned (.tuple #[.agg #[.int .i64 a, .int .i64 b], .int .i64 e]) ∧ Below w.heap.size w w'))
    (AY : Hid (∀ w : World, Calls Tryd.prog 20 #[.agg #[.int .i64 n2, .int .i64 d2], .agg #[.int .i64 n3, .int .i64 d3]] w fun r w' => r = .returned (.tuple #[.agg #[.int .i64 a2, .int .i64 b2], .int .i64 f]) ∧ Below w.heap.size w w'))
    (CA : Hid (∀ w : World, e = 0 → f = 0 → Calls Tryd.prog 28 #[.agg #[.int .i64 a, .int .i64 b], .agg #[.int .i64 a2, .int .i64 b2]] w fun r w' => r = .returned (.int .i64 c) ∧ Below w.heap.size w w'))
    (MX : Hid (∀ w : World, Calls Tryd.prog 24 #[.agg #[.int .i64 n1, .int .i64 d1], .agg #[.int .i64 n3, .int .i64 d3]] w fun r w' => r = .returned (.tuple #[.agg #[.int .i64 ma, .int .i64 mb], .int .i64 me]) ∧ Below w.heap.size w w'))
    (MY : Hid (∀ w : World, Calls Tryd.prog 24 #[.agg #[.int .i64 n2, .int .i64 d2], .agg #[.int .i64 n3, .int .i64 d3]] w fun r w' => r = .returned (.tuple #[.agg #[.int .i64 ma2, .int .i64 mb2], .int .i64 mf]) ∧ Below w.heap.size w w'))
    (CM : Hid (∀ w : World, me = 0 → mf = 0 → 0 < n3 → Calls Tryd.prog 28 #[.agg #[.int .i64 ma, .int .i64 mb], .agg #[.int .i64 ma2, .int .i64 mb2]] w fun r w' => r = .returned (.int .i64 c) ∧ Below w.heap.size w w'))
    (w : World) (ht : T10 w) :
    Calls Tryd.prog 8 #[.agg #[.int .i64 n1, .int .i64 d1], .agg #[.int .i64 n2, .int .i64 d2], .agg #[.int .i64 n3, .int .i64 d3]] w fun e w' => e = .returned (.bool true) ∧ Below w.heap.size w w' := by
  have HT := Lib.hid ht
  clear ht
  have HC := Lib.hid hc
  have HTR := Lib.hid htr
  have HNEG := Lib.hid hneg
  have R1 := Lib.hid (And.intro r1 r2)
  clear hc htr hneg r1 r2
  have T0 := Lib.hid (start3 w n1 d1 n2 d2 n3 d3)
  go_enter Tryd.func8, Tryd.ntmps8
  go_wp2_with fail
  with_reducible refine (K1.out _).mono ?_
  rintro r w1 ⟨rfl, hb⟩
  have T1 := Lib.hid (T0.out.step hb)
  clear hb T0 K1
  obtain ⟨v0, v1⟩ := cells2 (T1.out.row (b := w.heap.size + 1) (cs := #[.int .i64 n2, .int .i64 d2]) (t := 23) (by simp))
  go_wp2_with fail
  with_reducible refine (K2.out _).mono ?_
  rintro r w2 ⟨rfl, hb⟩
  have T2 := Lib.hid (T1.out.step hb)
  clear hb T1 K2 v0 v1
  obtain ⟨z0, z1⟩ := cells2 (T2.out.row (b := w.heap.size + 1 + 1) (cs := #[.int .i64 n3, .int .i64 d3]) (t := 23) (by simp))
  go_wp2_with fail
  with_reducible refine (K3.out _).mono ?_
  rintro r w3 ⟨rfl, hb⟩
  have T3 := Lib.hid (T2.out.step hb)
  clear hb T2 K3 z0 z1
  obtain ⟨u0, u1⟩ := cells2 (T3.out.row (b := w.heap.size) (cs := #[.int .i64 n1, .int .i64 d1]) (t := 23) (by simp))
  obtain ⟨v0, v1⟩ := cells2 (T3.out.row (b := w.heap.size + 1) (cs := #[.int .i64 n2, .int .i64 d2]) (t := 23) (by simp))
  go_wp2_with fail
  with_reducible refine (CXY.out _).mono ?_
  rintro r w4 ⟨rfl, hb⟩
  have T4 := Lib.hid (T3.out.step hb)
  clear hb T3 u0 u1 v0 v1
  go_upto_region 4 with fail
  go_cut [66] (fun s wx => s = .bool false ∧ Has w [(w.heap.size, #[.int .i64 n1, .int .i64 d1], 23), (w.heap.size + 1, #[.int .i64 n2, .int .i64 d2], 23), (w.heap.size + 1 + 1, #[.int .i64 n3, .int .i64 d3], 23)] wx)
  case first =>
    have hneg := HNEG.out
    obtain ⟨r1, r2⟩ := R1.out
    rcases HC.out with ⟨rfl, rfl, rfl, rfl⟩ | ⟨k1, k2⟩ | ⟨k1, rfl, k2⟩
    · by_cases km : 0 < m
      · obtain ⟨u0, u1⟩ := cells2 (T4.out.row (b := w.heap.size) (cs := #[.int .i64 n2, .int .i64 d2]) (t := 23) (by simp))
        obtain ⟨v0, v1⟩ := cells2 (T4.out.row (b := w.heap.size + 1) (cs := #[.int .i64 n2, .int .i64 d2]) (t := 23) (by simp))
        obtain ⟨z0, z1⟩ := cells2 (T4.out.row (b := w.heap.size + 1 + 1) (cs := #[.int .i64 n3, .int .i64 d3]) (t := 23) (by simp))
        go_wp2_with fail
        with_reducible refine (CYX.out _).mono ?_
        rintro r wf0 ⟨rfl, hb⟩
        have TF0 := Lib.hid (T4.out.step hb)
        clear hb T4 u0 u1 v0 v1 z0 z1
        obtain ⟨u0, u1⟩ := cells2 (TF0.out.row (b := w.heap.size) (cs := #[.int .i64 n2, .int .i64 d2]) (t := 23) (by simp))
        obtain ⟨v0, v1⟩ := cells2 (TF0.out.row (b := w.heap.size + 1) (cs := #[.int .i64 n2, .int .i64 d2]) (t := 23) (by simp))
        obtain ⟨z0, z1⟩ := cells2 (TF0.out.row (b := w.heap.size + 1 + 1) (cs := #[.int .i64 n3, .int .i64 d3]) (t := 23) (by simp))
        go_wp2_with fail
        with_reducible refine (CYZ.out _).mono ?_
        rintro r wf1 ⟨rfl, hb⟩
        have TF1 := Lib.hid (TF0.out.step hb)
        clear hb TF0 u0 u1 v0 v1 z0 z1
        obtain ⟨u0, u1⟩ := cells2 (TF1.out.row (b := w.heap.size) (cs := #[.int .i64 n2, .int .i64 d2]) (t := 23) (by simp))
        obtain ⟨v0, v1⟩ := cells2 (TF1.out.row (b := w.heap.size + 1) (cs := #[.int .i64 n2, .int .i64 d2]) (t := 23) (by simp))
        obtain ⟨z0, z1⟩ := cells2 (TF1.out.row (b := w.heap.size + 1 + 1) (cs := #[.int .i64 n3, .int .i64 d3]) (t := 23) (by simp))
        go_wp2_with fail
        go_meet
        exact ⟨congrArg Value.bool (by first | rfl | (simp; omega)), TF1.out⟩
      · have kl := HTR.out (by omega) (by omega)
        obtain ⟨u0, u1⟩ := cells2 (T4.out.row (b := w.heap.size) (cs := #[.int .i64 n2, .int .i64 d2]) (t := 23) (by simp))
        obtain ⟨v0, v1⟩ := cells2 (T4.out.row (b := w.heap.size + 1) (cs := #[.int .i64 n2, .int .i64 d2]) (t := 23) (by simp))
        obtain ⟨z0, z1⟩ := cells2 (T4.out.row (b := w.heap.size + 1 + 1) (cs := #[.int .i64 n3, .int .i64 d3]) (t := 23) (by simp))
        go_wp2_with fail
        with_reducible refine (CYX.out _).mono ?_
        rintro r wf0 ⟨rfl, hb⟩
        have TF0 := Lib.hid (T4.out.step hb)
        clear hb T4 u0 u1 v0 v1 z0 z1
        obtain ⟨u0, u1⟩ := cells2 (TF0.out.row (b := w.heap.size) (cs := #[.int .i64 n2, .int .i64 d2]) (t := 23) (by simp))
        obtain ⟨v0, v1⟩ := cells2 (TF0.out.row (b := w.heap.size + 1) (cs := #[.int .i64 n2, .int .i64 d2]) (t := 23) (by simp))
        obtain ⟨z0, z1⟩ := cells2 (TF0.out.row (b := w.heap.size + 1 + 1) (cs := #[.int .i64 n3, .int .i64 d3]) (t := 23) (by simp))
        go_wp2_with fail
        with_reducible refine (CYZ.out _).mono ?_
        rintro r wf1 ⟨rfl, hb⟩
        have TF1 := Lib.hid (TF0.out.step hb)
        clear hb TF0 u0 u1 v0 v1 z0 z1
        obtain ⟨u0, u1⟩ := cells2 (TF1.out.row (b := w.heap.size) (cs := #[.int .i64 n2, .int .i64 d2]) (t := 23) (by simp))
        obtain ⟨v0, v1⟩ := cells2 (TF1.out.row (b := w.heap.size + 1) (cs := #[.int .i64 n2, .int .i64 d2]) (t := 23) (by simp))
        obtain ⟨z0, z1⟩ := cells2 (TF1.out.row (b := w.heap.size + 1 + 1) (cs := #[.int .i64 n3, .int .i64 d3]) (t := 23) (by simp))
        go_wp2_with fail
        with_reducible refine (CXZ.out _).mono ?_
        rintro r wf2 ⟨rfl, hb⟩
        have TF2 := Lib.hid (TF1.out.step hb)
        clear hb TF1 u0 u1 v0 v1 z0 z1
        obtain ⟨u0, u1⟩ := cells2 (TF2.out.row (b := w.heap.size) (cs := #[.int .i64 n2, .int .i64 d2]) (t := 23) (by simp))
        obtain ⟨v0, v1⟩ := cells2 (TF2.out.row (b := w.heap.size + 1) (cs := #[.int .i64 n2, .int .i64 d2]) (t := 23) (by simp))
        obtain ⟨z0, z1⟩ := cells2 (TF2.out.row (b := w.heap.size + 1 + 1) (cs := #[.int .i64 n3, .int .i64 d3]) (t := 23) (by simp))
        go_wp2_with fail
        go_meet
        exact ⟨congrArg Value.bool (by first | rfl | (simp; omega)), TF2.out⟩
    · by_cases kc : 0 < c
      · obtain ⟨u0, u1⟩ := cells2 (T4.out.row (b := w.heap.size) (cs := #[.int .i64 n1, .int .i64 d1]) (t := 23) (by simp))
        obtain ⟨v0, v1⟩ := cells2 (T4.out.row (b := w.heap.size + 1) (cs := #[.int .i64 n2, .int .i64 d2]) (t := 23) (by simp))
        obtain ⟨z0, z1⟩ := cells2 (T4.out.row (b := w.heap.size + 1 + 1) (cs := #[.int .i64 n3, .int .i64 d3]) (t := 23) (by simp))
        go_wp2_with fail
        with_reducible refine (CYX.out _).mono ?_
        rintro r wf0 ⟨rfl, hb⟩
        have TF0 := Lib.hid (T4.out.step hb)
        clear hb T4 u0 u1 v0 v1 z0 z1
        obtain ⟨u0, u1⟩ := cells2 (TF0.out.row (b := w.heap.size) (cs := #[.int .i64 n1, .int .i64 d1]) (t := 23) (by simp))
        obtain ⟨v0, v1⟩ := cells2 (TF0.out.row (b := w.heap.size + 1) (cs := #[.int .i64 n2, .int .i64 d2]) (t := 23) (by simp))
        obtain ⟨z0, z1⟩ := cells2 (TF0.out.row (b := w.heap.size + 1 + 1) (cs := #[.int .i64 n3, .int .i64 d3]) (t := 23) (by simp))
        go_wp2_with fail
        go_meet
        exact ⟨congrArg Value.bool (by first | rfl | (simp; omega)), TF0.out⟩
      · by_cases km : 0 < m
        · obtain ⟨u0, u1⟩ := cells2 (T4.out.row (b := w.heap.size) (cs := #[.int .i64 n1, .int .i64 d1]) (t := 23) (by simp))
          obtain ⟨v0, v1⟩ := cells2 (T4.out.row (b := w.heap.size + 1) (cs := #[.int .i64 n2, .int .i64 d2]) (t := 23) (by simp))
          obtain ⟨z0, z1⟩ := cells2 (T4.out.row (b := w.heap.size + 1 + 1) (cs := #[.int .i64 n3, .int .i64 d3]) (t := 23) (by simp))
          go_wp2_with fail
          with_reducible refine (CYX.out _).mono ?_
          rintro r wf0 ⟨rfl, hb⟩
          have TF0 := Lib.hid (T4.out.step hb)
          clear hb T4 u0 u1 v0 v1 z0 z1
          obtain ⟨u0, u1⟩ := cells2 (TF0.out.row (b := w.heap.size) (cs := #[.int .i64 n1, .int .i64 d1]) (t := 23) (by simp))
          obtain ⟨v0, v1⟩ := cells2 (TF0.out.row (b := w.heap.size + 1) (cs := #[.int .i64 n2, .int .i64 d2]) (t := 23) (by simp))
          obtain ⟨z0, z1⟩ := cells2 (TF0.out.row (b := w.heap.size + 1 + 1) (cs := #[.int .i64 n3, .int .i64 d3]) (t := 23) (by simp))
          go_wp2_with fail
          with_reducible refine (CYZ.out _).mono ?_
          rintro r wf1 ⟨rfl, hb⟩
          have TF1 := Lib.hid (TF0.out.step hb)
          clear hb TF0 u0 u1 v0 v1 z0 z1
          obtain ⟨u0, u1⟩ := cells2 (TF1.out.row (b := w.heap.size) (cs := #[.int .i64 n1, .int .i64 d1]) (t := 23) (by simp))
          obtain ⟨v0, v1⟩ := cells2 (TF1.out.row (b := w.heap.size + 1) (cs := #[.int .i64 n2, .int .i64 d2]) (t := 23) (by simp))
          obtain ⟨z0, z1⟩ := cells2 (TF1.out.row (b := w.heap.size + 1 + 1) (cs := #[.int .i64 n3, .int .i64 d3]) (t := 23) (by simp))
          go_wp2_with fail
          go_meet
          exact ⟨congrArg Value.bool (by first | rfl | (simp; omega)), TF1.out⟩
        · have kl := HTR.out (by omega) (by omega)
          obtain ⟨u0, u1⟩ := cells2 (T4.out.row (b := w.heap.size) (cs := #[.int .i64 n1, .int .i64 d1]) (t := 23) (by simp))
          obtain ⟨v0, v1⟩ := cells2 (T4.out.row (b := w.heap.size + 1) (cs := #[.int .i64 n2, .int .i64 d2]) (t := 23) (by simp))
          obtain ⟨z0, z1⟩ := cells2 (T4.out.row (b := w.heap.size + 1 + 1) (cs := #[.int .i64 n3, .int .i64 d3]) (t := 23) (by simp))
          go_wp2_with fail
          with_reducible refine (CYX.out _).mono ?_
          rintro r wf0 ⟨rfl, hb⟩
          have TF0 := Lib.hid (T4.out.step hb)
          clear hb T4 u0 u1 v0 v1 z0 z1
          obtain ⟨u0, u1⟩ := cells2 (TF0.out.row (b := w.heap.size) (cs := #[.int .i64 n1, .int .i64 d1]) (t := 23) (by simp))
          obtain ⟨v0, v1⟩ := cells2 (TF0.out.row (b := w.heap.size + 1) (cs := #[.int .i64 n2, .int .i64 d2]) (t := 23) (by simp))
          obtain ⟨z0, z1⟩ := cells2 (TF0.out.row (b := w.heap.size + 1 + 1) (cs := #[.int .i64 n3, .int .i64 d3]) (t := 23) (by simp))
          go_wp2_with fail
          with_reducible refine (CYZ.out _).mono ?_
          rintro r wf1 ⟨rfl, hb⟩
          have TF1 := Lib.hid (TF0.out.step hb)
          clear hb TF0 u0 u1 v0 v1 z0 z1
          obtain ⟨u0, u1⟩ := cells2 (TF1.out.row (b := w.heap.size) (cs := #[.int .i64 n1, .int .i64 d1]) (t := 23) (by simp))
          obtain ⟨v0, v1⟩ := cells2 (TF1.out.row (b := w.heap.size + 1) (cs := #[.int .i64 n2, .int .i64 d2]) (t := 23) (by simp))
          obtain ⟨z0, z1⟩ := cells2 (TF1.out.row (b := w.heap.size + 1 + 1) (cs := #[.int .i64 n3, .int .i64 d3]) (t := 23) (by simp))
          go_wp2_with fail
          with_reducible refine (CXZ.out _).mono ?_
          rintro r wf2 ⟨rfl, hb⟩
          have TF2 := Lib.hid (TF1.out.step hb)
          clear hb TF1 u0 u1 v0 v1 z0 z1
          obtain ⟨u0, u1⟩ := cells2 (TF2.out.row (b := w.heap.size) (cs := #[.int .i64 n1, .int .i64 d1]) (t := 23) (by simp))
          obtain ⟨v0, v1⟩ := cells2 (TF2.out.row (b := w.heap.size + 1) (cs := #[.int .i64 n2, .int .i64 d2]) (t := 23) (by simp))
          obtain ⟨z0, z1⟩ := cells2 (TF2.out.row (b := w.heap.size + 1 + 1) (cs := #[.int .i64 n3, .int .i64 d3]) (t := 23) (by simp))
          go_wp2_with fail
          go_meet
          exact ⟨congrArg Value.bool (by first | rfl | (simp; omega)), TF2.out⟩
    · by_cases kc : 0 < c
      · obtain ⟨u0, u1⟩ := cells2 (T4.out.row (b := w.heap.size) (cs := #[.int .i64 n2, .int .i64 d1]) (t := 23) (by simp))
        obtain ⟨v0, v1⟩ := cells2 (T4.out.row (b := w.heap.size + 1) (cs := #[.int .i64 n2, .int .i64 d2]) (t := 23) (by simp))
        obtain ⟨z0, z1⟩ := cells2 (T4.out.row (b := w.heap.size + 1 + 1) (cs := #[.int .i64 n3, .int .i64 d3]) (t := 23) (by simp))
        go_wp2_with fail
        with_reducible refine (CYX.out _).mono ?_
        rintro r wf0 ⟨rfl, hb⟩
        have TF0 := Lib.hid (T4.out.step hb)
        clear hb T4 u0 u1 v0 v1 z0 z1
        obtain ⟨u0, u1⟩ := cells2 (TF0.out.row (b := w.heap.size) (cs := #[.int .i64 n2, .int .i64 d1]) (t := 23) (by simp))
        obtain ⟨v0, v1⟩ := cells2 (TF0.out.row (b := w.heap.size + 1) (cs := #[.int .i64 n2, .int .i64 d2]) (t := 23) (by simp))
        obtain ⟨z0, z1⟩ := cells2 (TF0.out.row (b := w.heap.size + 1 + 1) (cs := #[.int .i64 n3, .int .i64 d3]) (t := 23) (by simp))
        go_wp2_with fail
        go_meet
        exact ⟨congrArg Value.bool (by first | rfl | (simp; omega)), TF0.out⟩
      · by_cases km : 0 < m
        · obtain ⟨u0, u1⟩ := cells2 (T4.out.row (b := w.heap.size) (cs := #[.int .i64 n2, .int .i64 d1]) (t := 23) (by simp))
          obtain ⟨v0, v1⟩ := cells2 (T4.out.row (b := w.heap.size + 1) (cs := #[.int .i64 n2, .int .i64 d2]) (t := 23) (by simp))
          obtain ⟨z0, z1⟩ := cells2 (T4.out.row (b := w.heap.size + 1 + 1) (cs := #[.int .i64 n3, .int .i64 d3]) (t := 23) (by simp))
          go_wp2_with fail
          with_reducible refine (CYX.out _).mono ?_
          rintro r wf0 ⟨rfl, hb⟩
          have TF0 := Lib.hid (T4.out.step hb)
          clear hb T4 u0 u1 v0 v1 z0 z1
          obtain ⟨u0, u1⟩ := cells2 (TF0.out.row (b := w.heap.size) (cs := #[.int .i64 n2, .int .i64 d1]) (t := 23) (by simp))
          obtain ⟨v0, v1⟩ := cells2 (TF0.out.row (b := w.heap.size + 1) (cs := #[.int .i64 n2, .int .i64 d2]) (t := 23) (by simp))
          obtain ⟨z0, z1⟩ := cells2 (TF0.out.row (b := w.heap.size + 1 + 1) (cs := #[.int .i64 n3, .int .i64 d3]) (t := 23) (by simp))
          go_wp2_with fail
          with_reducible refine (CYZ.out _).mono ?_
          rintro r wf1 ⟨rfl, hb⟩
          have TF1 := Lib.hid (TF0.out.step hb)
          clear hb TF0 u0 u1 v0 v1 z0 z1
          obtain ⟨u0, u1⟩ := cells2 (TF1.out.row (b := w.heap.size) (cs := #[.int .i64 n2, .int .i64 d1]) (t := 23) (by simp))
          obtain ⟨v0, v1⟩ := cells2 (TF1.out.row (b := w.heap.size + 1) (cs := #[.int .i64 n2, .int .i64 d2]) (t := 23) (by simp))
          obtain ⟨z0, z1⟩ := cells2 (TF1.out.row (b := w.heap.size + 1 + 1) (cs := #[.int .i64 n3, .int .i64 d3]) (t := 23) (by simp))
          go_wp2_with fail
          go_meet
          exact ⟨congrArg Value.bool (by first | rfl | (simp; omega)), TF1.out⟩
        · have kl := HTR.out (by omega) (by omega)
          obtain ⟨u0, u1⟩ := cells2 (T4.out.row (b := w.heap.size) (cs := #[.int .i64 n2, .int .i64 d1]) (t := 23) (by simp))
          obtain ⟨v0, v1⟩ := cells2 (T4.out.row (b := w.heap.size + 1) (cs := #[.int .i64 n2, .int .i64 d2]) (t := 23) (by simp))
          obtain ⟨z0, z1⟩ := cells2 (T4.out.row (b := w.heap.size + 1 + 1) (cs := #[.int .i64 n3, .int .i64 d3]) (t := 23) (by simp))
          go_wp2_with fail
          with_reducible refine (CYX.out _).mono ?_
          rintro r wf0 ⟨rfl, hb⟩
          have TF0 := Lib.hid (T4.out.step hb)
          clear hb T4 u0 u1 v0 v1 z0 z1
          obtain ⟨u0, u1⟩ := cells2 (TF0.out.row (b := w.heap.size) (cs := #[.int .i64 n2, .int .i64 d1]) (t := 23) (by simp))
          obtain ⟨v0, v1⟩ := cells2 (TF0.out.row (b := w.heap.size + 1) (cs := #[.int .i64 n2, .int .i64 d2]) (t := 23) (by simp))
          obtain ⟨z0, z1⟩ := cells2 (TF0.out.row (b := w.heap.size + 1 + 1) (cs := #[.int .i64 n3, .int .i64 d3]) (t := 23) (by simp))
          go_wp2_with fail
          with_reducible refine (CYZ.out _).mono ?_
          rintro r wf1 ⟨rfl, hb⟩
          have TF1 := Lib.hid (TF0.out.step hb)
          clear hb TF0 u0 u1 v0 v1 z0 z1
          obtain ⟨u0, u1⟩ := cells2 (TF1.out.row (b := w.heap.size) (cs := #[.int .i64 n2, .int .i64 d1]) (t := 23) (by simp))
          obtain ⟨v0, v1⟩ := cells2 (TF1.out.row (b := w.heap.size + 1) (cs := #[.int .i64 n2, .int .i64 d2]) (t := 23) (by simp))
          obtain ⟨z0, z1⟩ := cells2 (TF1.out.row (b := w.heap.size + 1 + 1) (cs := #[.int .i64 n3, .int .i64 d3]) (t := 23) (by simp))
          go_wp2_with fail
          with_reducible refine (CXZ.out _).mono ?_
          rintro r wf2 ⟨rfl, hb⟩
          have TF2 := Lib.hid (TF1.out.step hb)
          clear hb TF1 u0 u1 v0 v1 z0 z1
          obtain ⟨u0, u1⟩ := cells2 (TF2.out.row (b := w.heap.size) (cs := #[.int .i64 n2, .int .i64 d1]) (t := 23) (by simp))
          obtain ⟨v0, v1⟩ := cells2 (TF2.out.row (b := w.heap.size + 1) (cs := #[.int .i64 n2, .int .i64 d2]) (t := 23) (by simp))
          obtain ⟨z0, z1⟩ := cells2 (TF2.out.row (b := w.heap.size + 1 + 1) (cs := #[.int .i64 n3, .int .i64 d3]) (t := 23) (by simp))
          go_wp2_with fail
          go_meet
          exact ⟨congrArg Value.bool (by first | rfl | (simp; omega)), TF2.out⟩
  case rest =>
    obtain ⟨rfl, hT⟩ := hcut
    have T5 := Lib.hid hT
    clear hT T4 HC HTR R1 HNEG CXY CYX CYZ CXZ
    obtain ⟨u0, u1⟩ := cells2 (T5.out.row (b := w.heap.size) (cs := #[.int .i64 n1, .int .i64 d1]) (t := 23) (by simp))
    obtain ⟨z0, z1⟩ := cells2 (T5.out.row (b := w.heap.size + 1 + 1) (cs := #[.int .i64 n3, .int .i64 d3]) (t := 23) (by simp))
    go_wp2_with fail
    with_reducible refine (AX.out _).mono ?_
    rintro r w6 ⟨rfl, hb⟩
    have k6 : w.heap.size + 1 + 1 < w6.heap.size := (T5.out.step hb).lt (x := (w.heap.size + 1 + 1, #[.int .i64 n3, .int .i64 d3], 23)) (by simp)
    have T6 := Lib.hid ((T5.out.step hb).alloc #[.int .i64 a, .int .i64 b] 23)
    clear hb T5 AX u0 u1 z0 z1
    go_upto_region 7 with fail
    generalize w6.alloc (.cells #[.int .i64 a, .int .i64 b] 23) = y6 at *
    generalize w6.heap.size = ga at *
    obtain ⟨v0, v1⟩ := cells2 (T6.out.row (b := w.heap.size + 1) (cs := #[.int .i64 n2, .int .i64 d2]) (t := 23) (by simp))
    obtain ⟨z0, z1⟩ := cells2 (T6.out.row (b := w.heap.size + 1 + 1) (cs := #[.int .i64 n3, .int .i64 d3]) (t := 23) (by simp))
    go_wp2_with fail
    with_reducible refine (AY.out _).mono ?_
    rintro r w7 ⟨rfl, hb⟩
    have k7 : ga < w7.heap.size := (T6.out.step hb).lt (x := (ga, #[.int .i64 a, .int .i64 b], 23)) (by simp)
    have T7 := Lib.hid ((T6.out.step hb).alloc #[.int .i64 a2, .int .i64 b2] 23)
    clear hb T6 AY v0 v1 z0 z1
    go_upto_region 8 with fail
    generalize w7.alloc (.cells #[.int .i64 a2, .int .i64 b2] 23) = y7 at *
    generalize w7.heap.size = gb at *
    go_cut [91] (fun s wx => s = .bool false ∧ Has w [(gb, #[.int .i64 a2, .int .i64 b2], 23), (ga, #[.int .i64 a, .int .i64 b], 23), (w.heap.size, #[.int .i64 n1, .int .i64 d1], 23), (w.heap.size + 1, #[.int .i64 n2, .int .i64 d2], 23), (w.heap.size + 1 + 1, #[.int .i64 n3, .int .i64 d3], 23)] wx)
    case first =>
      by_cases he : e = 0
      · subst he
        by_cases hf : f = 0
        · subst hf
          obtain ⟨p0, p1⟩ := cells2 (T7.out.row (b := ga) (cs := #[.int .i64 a, .int .i64 b]) (t := 23) (by simp))
          obtain ⟨q0, q1⟩ := cells2 (T7.out.row (b := gb) (cs := #[.int .i64 a2, .int .i64 b2]) (t := 23) (by simp))
          go_wp2_with fail
          with_reducible refine (CA.out _ (by first | trivial | rfl) (by first | trivial | rfl)).mono ?_
          rintro r w8 ⟨rfl, hb⟩
          have T8 := Lib.hid (T7.out.step hb)
          clear hb T7 p0 p1 q0 q1
          go_wp2_with fail
          go_meet
          exact ⟨rfl, T8.out⟩
        · go_wp2_with fail
          go_meet
          exact ⟨rfl, T7.out⟩
      · go_wp2_with fail
        go_meet
        exact ⟨rfl, T7.out⟩
    case rest =>
      obtain ⟨rfl, hT⟩ := hcut
      have T9 := Lib.hid hT
      clear hT T7 CA
      obtain ⟨u0, u1⟩ := cells2 (T9.out.row (b := w.heap.size) (cs := #[.int .i64 n1, .int .i64 d1]) (t := 23) (by simp))
      obtain ⟨z0, z1⟩ := cells2 (T9.out.row (b := w.heap.size + 1 + 1) (cs := #[.int .i64 n3, .int .i64 d3]) (t := 23) (by simp))
      go_wp2_with fail
      with_reducible refine (MX.out _).mono ?_
      rintro r w10 ⟨rfl, hb⟩
      have T10' := Lib.hid (T9.out.step hb)
      clear hb T9 MX u0 u1 z0 z1
      obtain ⟨p0, p1⟩ := cells2 (T10'.out.row (b := ga) (cs := #[.int .i64 a, .int .i64 b]) (t := 23) (by simp))
      obtain ⟨fp0, fp1⟩ := frozen2 (T10'.out.row (b := ga) (cs := #[.int .i64 a, .int .i64 b]) (t := 23) (by simp))
      go_upto_region 11 with fail
      have T11 := Lib.hid (Has.put (g := ga) (a := a) (b := b) (a' := ma) (b' := mb) (M := [(gb, #[.int .i64 a2, .int .i64 b2], 23), (w.heap.size, #[.int .i64 n1, .int .i64 d1], 23), (w.heap.size + 1, #[.int .i64 n2, .int .i64 d2], 23), (w.heap.size + 1 + 1, #[.int .i64 n3, .int .i64 d3], 23)]) T10'.out (by intro x hx; simp only [List.mem_cons, List.not_mem_nil, or_false] at hx ⊢; rcases hx with h | h | h | h | h <;> simp [h]) (by intro x hx; simp only [List.mem_cons, List.not_mem_nil, or_false] at hx; rcases hx with h | h | h | h <;> (rw [h]; simp only; omega)))
      clear T10' p0 p1 fp0 fp1
      generalize (w10.setCell ⟨ga, 0, none⟩ (.int .i64 ma)).setCell ⟨ga, 1, none⟩ (.int .i64 mb) = y11 at *
      obtain ⟨v0, v1⟩ := cells2 (T11.out.row (b := w.heap.size + 1) (cs := #[.int .i64 n2, .int .i64 d2]) (t := 23) (by simp))
      obtain ⟨z0, z1⟩ := cells2 (T11.out.row (b := w.heap.size + 1 + 1) (cs := #[.int .i64 n3, .int .i64 d3]) (t := 23) (by simp))
      go_wp2_with fail
      with_reducible refine (MY.out _).mono ?_
      rintro r w12 ⟨rfl, hb⟩
      have T12 := Lib.hid (T11.out.step hb)
      clear hb T11 MY v0 v1 z0 z1
      obtain ⟨q0, q1⟩ := cells2 (T12.out.row (b := gb) (cs := #[.int .i64 a2, .int .i64 b2]) (t := 23) (by simp))
      obtain ⟨fq0, fq1⟩ := frozen2 (T12.out.row (b := gb) (cs := #[.int .i64 a2, .int .i64 b2]) (t := 23) (by simp))
      go_upto_region 12 with fail
      have T13 := Lib.hid (Has.put (g := gb) (a := a2) (b := b2) (a' := ma2) (b' := mb2) (M := [(ga, #[.int .i64 ma, .int .i64 mb], 23), (w.heap.size, #[.int .i64 n1, .int .i64 d1], 23), (w.heap.size + 1, #[.int .i64 n2, .int .i64 d2], 23), (w.heap.size + 1 + 1, #[.int .i64 n3, .int .i64 d3], 23)]) T12.out (by intro x hx; simp only [List.mem_cons, List.not_mem_nil, or_false] at hx ⊢; rcases hx with h | h | h | h | h <;> simp [h]) (by intro x hx; simp only [List.mem_cons, List.not_mem_nil, or_false] at hx; rcases hx with h | h | h | h <;> (rw [h]; simp only; omega)))
      clear T12 q0 q1 fq0 fq1
      generalize (w12.setCell ⟨gb, 0, none⟩ (.int .i64 ma2)).setCell ⟨gb, 1, none⟩ (.int .i64 mb2) = y13 at *
      by_cases he : me = 0
      · subst he
        by_cases hf : mf = 0
        · subst hf
          obtain ⟨z0, z1⟩ := cells2 (T13.out.row (b := w.heap.size + 1 + 1) (cs := #[.int .i64 n3, .int .i64 d3]) (t := 23) (by simp))
          by_cases hz : 0 < n3
          · have hz' : ¬ n3 ≤ 0 := by omega
            obtain ⟨p0, p1⟩ := cells2 (T13.out.row (b := ga) (cs := #[.int .i64 ma, .int .i64 mb]) (t := 23) (by simp))
            obtain ⟨q0, q1⟩ := cells2 (T13.out.row (b := gb) (cs := #[.int .i64 ma2, .int .i64 mb2]) (t := 23) (by simp))
            go_wp2_with fail
            with_reducible refine (CM.out _ (by first | trivial | rfl) (by first | trivial | rfl) hz).mono ?_
            rintro r w14 ⟨rfl, hb⟩
            have T14 := Lib.hid (T13.out.step hb)
            clear hb T13 p0 p1 q0 q1
            go_wp2_with fail
            with_reducible refine (awake_any _ (HT.out.below (Has.b T14.out))).mono ?_
            rintro r w15 ⟨rfl, hb⟩
            have T15 := Lib.hid (T14.out.step hb)
            clear hb T14
            go_wp2
            go_ret
            exact ⟨rfl, Has.b T15.out⟩
          · have hz' : n3 ≤ 0 := by omega
            go_wp2_with fail
            with_reducible refine (awake_any _ (HT.out.below (Has.b T13.out))).mono ?_
            rintro r w15 ⟨rfl, hb⟩
            have T15 := Lib.hid (T13.out.step hb)
            clear hb T13
            go_wp2
            go_ret
            exact ⟨rfl, Has.b T15.out⟩
        · go_wp2_with fail
          with_reducible refine (awake_any _ (HT.out.below (Has.b T13.out))).mono ?_
          rintro r w15 ⟨rfl, hb⟩
          have T15 := Lib.hid (T13.out.step hb)
          clear hb T13
          go_wp2
          go_ret
          exact ⟨rfl, Has.b T15.out⟩
      · go_wp2_with fail
        with_reducible refine (awake_any _ (HT.out.below (Has.b T13.out))).mono ?_
        rintro r w15 ⟨rfl, hb⟩
        have T15 := Lib.hid (T13.out.step hb)
        clear hb T13
        go_wp2
        go_ret
        exact ⟨rfl, Has.b T15.out⟩
theorem olaw_walk (n1 d1 : Int) (i1 : inI n1) (j1 : inI d1) (n2 d2 : Int) (i2 : inI n2) (j2 : inI d2) (n3 d3 : Int) (i3 : inI n3) (j3 : inI d3) (w : World) (ht : T10 w) :
    Calls Tryd.prog 8 #[.agg #[.int .i64 n1, .int .i64 d1], .agg #[.int .i64 n2, .int .i64 d2], .agg #[.int .i64 n3, .int .i64 d3]] w fun e w' => e = .returned (.bool true) ∧ Below w.heap.size w w' := by
  have KK : ∀ n d : Int, inI n → inI d → ∃ c : Int, (∀ w : World, Calls Tryd.prog 14 #[.agg #[.int .i64 n, .int .i64 d]] w fun e w' => e = .returned (.int .i64 c) ∧ Below w.heap.size w w') ∧ (c = 0 ↔ Rat.chk n d) := by
    intro n d i j
    by_cases h : Rat.chk n d
    · exact ⟨0, fun w => rCheck_yes n d h w, ⟨fun _ => h, fun _ => rfl⟩⟩
    · exact ⟨1, fun w => rCheck_no n d i j h w, ⟨fun h => (by cases h), fun h2 => absurd h2 h⟩⟩
  obtain ⟨c1, K1, e1⟩ := KK n1 d1 i1 j1
  obtain ⟨c2, K2, e2⟩ := KK n2 d2 i2 j2
  obtain ⟨c3, K3, e3⟩ := KK n3 d3 i3 j3
  by_cases hc : c1 = 0 ∧ c2 = 0 ∧ c3 = 0
  · obtain ⟨rfl, rfl, rfl⟩ := hc
    obtain ⟨D1, rfl, h1⟩ := Rat.chk_nat (e1.1 rfl)
    obtain ⟨D2, rfl, h2⟩ := Rat.chk_nat (e2.1 rfl)
    obtain ⟨D3, rfl, h3⟩ := Rat.chk_nat (e3.1 rfl)
    obtain ⟨a, b, e, oa, ha⟩ := op_chk (· + ·) h1 h3
    obtain ⟨a2, b2, f, ob, hb⟩ := op_chk (· + ·) h2 h3
    obtain ⟨ma, mb, me, om, hma⟩ := op_chk (· * ·) h1 h3
    obtain ⟨ma2, mb2, mf, on, hmb⟩ := op_chk (· * ·) h2 h3
    have CXY := fun w => compare_any n1 D1 n2 D2 i1 j1 i2 j2 w
    have CYX := fun w => compare_any n2 D2 n1 D1 i2 j2 i1 j1 w
    have CYZ := fun w => compare_any n2 D2 n3 D3 i2 j2 i3 j3 w
    have CXZ := fun w => compare_any n1 D1 n3 D3 i1 j1 i3 j3 w
    have AX := fun w => add_any n1 D1 n3 D3 i1 j1 i3 j3 w
    have AY := fun w => add_any n2 D2 n3 D3 i2 j2 i3 j3 w
    have MX := fun w => mul_any n1 D1 n3 D3 i1 j1 i3 j3 w
    have MY := fun w => mul_any n2 D2 n3 D3 i2 j2 i3 j3 w
    rw [cmp_chk h1 h2] at CXY
    rw [cmp_chk h2 h1, cmpQ_neg] at CYX
    rw [cmp_chk h2 h3] at CYZ
    rw [cmp_chk h1 h3] at CXZ
    rw [oa] at AX
    rw [ob] at AY
    rw [om] at MX
    rw [on] at MY
    have r := cmpQ_range (Rat.toQ n1 D1) (Rat.toQ n2 D2)
    have hz0 : cmpQ (Rat.toQ n1 D1) (Rat.toQ n2 D2) = 0 ↔ Rat.toQ n1 D1 = Rat.toQ n2 D2 := cmpQ_zero
    have htr : cmpQ (Rat.toQ n1 D1) (Rat.toQ n2 D2) ≤ 0 → cmpQ (Rat.toQ n2 D2) (Rat.toQ n3 D3) ≤ 0 → cmpQ (Rat.toQ n1 D1) (Rat.toQ n3 D3) ≤ 0 := fun x y => cmpQ_le.2 (Rat.le_trans (cmpQ_le.1 x) (cmpQ_le.1 y))
    refine olaw_raw n1 D1 n2 D2 n3 D3 (cmpQ (Rat.toQ n1 D1) (Rat.toQ n2 D2)) (-cmpQ (Rat.toQ n1 D1) (Rat.toQ n2 D2)) _ _ a b e a2 b2 f ma mb me ma2 mb2 mf (by omega) (by omega) ?_ ?_ htr (Lib.hid K1) (Lib.hid K2) (Lib.hid K3)
      (Lib.hid CXY) (Lib.hid CYX) (Lib.hid CYZ) (Lib.hid CXZ) (Lib.hid AX) (Lib.hid AY) ?_ (Lib.hid MX) (Lib.hid MY) ?_ w ht
    · generalize cmpQ (Rat.toQ n1 D1) (Rat.toQ n2 D2) = c at *
      exact IntWalk.i64_in _ (by omega)
    · by_cases hq : Rat.toQ n1 D1 = Rat.toQ n2 D2
      · obtain ⟨hn, hd⟩ := Rat.toQ_eq h1 h2 hq
        exact .inl ⟨hz0.2 hq, by rw [hz0.2 hq]; rfl, hn.symm, by rw [hd]⟩
      · have hne : ¬ cmpQ (Rat.toQ n1 D1) (Rat.toQ n2 D2) = 0 := fun h => hq (hz0.1 h)
        by_cases hn : n1 = n2
        · subst hn
          refine .inr (.inr ⟨hne, rfl, fun h => hq ?_⟩)
          rw [show D1 = D2 by omega]
        · exact .inr (.inl ⟨hne, hn⟩)
    · refine Lib.hid fun w he hf => ?_
      obtain ⟨B, rfl, cb, qb⟩ := ha he
      obtain ⟨B2, rfl, cb2, qb2⟩ := hb hf
      have C := compare_any a B a2 B2 (chk_bounds cb).2.2.2.1 (chk_bounds cb).2.2.2.2 (chk_bounds cb2).2.2.2.1 (chk_bounds cb2).2.2.2.2 w
      rw [cmp_chk cb cb2, qb, qb2, cmpQ_add] at C
      exact C
    · refine Lib.hid fun w he hf hz => ?_
      obtain ⟨B, rfl, cb, qb⟩ := hma he
      obtain ⟨B2, rfl, cb2, qb2⟩ := hmb hf
      have C := compare_any ma B ma2 B2 (chk_bounds cb).2.2.2.1 (chk_bounds cb).2.2.2.2 (chk_bounds cb2).2.2.2.1 (chk_bounds cb2).2.2.2.2 w
      rw [cmp_chk cb cb2, qb, qb2, cmpQ_mul _ _ (toQ_pos h3 hz)] at C
      exact C
  · exact olaw_out n1 d1 n2 d2 n3 d3 c1 c2 c3 (by omega) (Lib.hid K1) (Lib.hid K2) (Lib.hid K3) w ht
end Go.Proofs.YtbhlpcomgfmodaaDoor.Pro
