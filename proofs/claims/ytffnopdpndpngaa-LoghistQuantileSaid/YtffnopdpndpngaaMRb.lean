/- The contracts of the reference of layer 3: Check. The contracts of the reference of layer 3: pair. The contracts of the reference of layer 3: Mul. The contracts of the reference of layer 3: what is refused. The contracts of the reference of layer 3: over as a whole. The contracts of the reference of layer 3: Compare, Floor. The contracts of the reference of layer 3: Compare where it refuses, Floor, Div, Sub. The contracts of the reference of layer 3: Make. What the fractions' operations come to: Lean's own rationals. The contracts of the reference of layer 3: Add. The contracts of the reference of layer 3: Sub; Add, Sub, Mul, Div, Compare by Lean's rationals. -/
import Derived.Test.YtffnopdpndpngaaMRa
import Derived.BigQuiet
import Derived.Deep.RegionHeld3
import Derived.Deep.Cut
import Derived.Deep.CutBlock
import Derived.Deep.CutRange
set_option linter.unusedVariables false
set_option linter.unusedSimpArgs false
namespace Go.Proofs.Ytffnopdpndpngaa.Rat
open Go.RowKit

/-- A valid fraction, as numbers of the program. -/
def chk (n d : Int) : Prop := (1 ≤ d ∧ d ≤ 1152921504606846976) ∧ (-1152921504606846976 ≤ n ∧ n ≤ 1152921504606846976) ∧ Nat.gcd n.natAbs d.natAbs = 1
instance (n d : Int) : Decidable (chk n d) := by unfold chk; infer_instance
/-- A fraction, as a value. -/
def rat (n d : Int) : Value := .agg #[.int .i64 n, .int .i64 d]

theorem abs_same (z : Int) (h1 : -9223372036854775807 ≤ z) (h2 : z ≤ 9223372036854775807) (w : World) :
    Calls Try.prog 77 #[.int .i64 z] w fun e w' => e = .returned (.int .i64 (z.natAbs : Nat)) ∧ w' = w :=
  (abs_any z h1 h2 w).mono fun _ _ h => ⟨h.1, h.2.symm⟩
set_option maxHeartbeats 1000000 in
theorem check_any (n d : Int) (w : World) (hn : -9223372036854775808 ≤ n ∧ n ≤ 9223372036854775807) (hd : -9223372036854775808 ≤ d ∧ d ≤ 9223372036854775807) :
    Calls Try.prog 52 #[rat n d] w fun e w' => e = .returned (.int .i64 (if chk n d then 0 else 1)) ∧ Below w.heap.size w w' := by
  unfold rat
  by_cases h1 : d < 1
  · rw [if_neg (by unfold chk; omega)]
    go_enter Try.func52, Try.ntmps52
    go_wp2_with fail
    go_quiet (fail)
    go_wp2
    go_ret
    exact ⟨rfl, below_drewN ((Below.refl _ _).alloc (Nat.le_refl _) _) _⟩
  · by_cases h2 : 1152921504606846976 < d
    · rw [if_neg (by unfold chk; omega)]
      have g1 : decide (d < 1) = false := decide_eq_false h1
      go_enter Try.func52, Try.ntmps52
      go_wp2_with fail
      go_quiet (fail)
      go_wp2
      go_ret
      exact ⟨rfl, below_drewN ((Below.refl _ _).alloc (Nat.le_refl _) _) _⟩
    · have g1 : decide (d < 1) = false := decide_eq_false h1
      have g2 : decide (1152921504606846976 < d) = false := decide_eq_false h2
      by_cases h3 : n < -1152921504606846976
      · rw [if_neg (by unfold chk; omega)]
        go_enter Try.func52, Try.ntmps52
        go_wp2_with fail
        go_quiet (fail)
        go_wp2
        go_ret
        exact ⟨rfl, below_drewN ((Below.refl _ _).alloc (Nat.le_refl _) _) _⟩
      · have g3 : decide (n < -1152921504606846976) = false := decide_eq_false h3
        by_cases h4 : 1152921504606846976 < n
        · rw [if_neg (by unfold chk; omega)]
          go_enter Try.func52, Try.ntmps52
          go_wp2_with fail
          go_quiet (fail)
          go_wp2
          go_ret
          exact ⟨rfl, below_drewN ((Below.refl _ _).alloc (Nat.le_refl _) _) _⟩
        · have g4 : decide (1152921504606846976 < n) = false := decide_eq_false h4
          obtain ⟨D, rfl⟩ := Int.eq_ofNat_of_zero_le (show 0 ≤ d by omega)
          have A := Lib.hid fun w => abs_same n (by omega) (by omega) w
          have G := Lib.hid fun w => gcd_draws n.natAbs D (by omega) (by omega) w
          have hchk : chk n D ↔ Nat.gcd n.natAbs D = 1 := ⟨fun h => h.2.2, fun h => ⟨⟨by omega, by omega⟩, ⟨by omega, by omega⟩, h⟩⟩
          by_cases hg : Nat.gcd n.natAbs D = 1
          · rw [if_pos (hchk.2 hg)]
            rw [hg] at G
            clear hchk hg
            generalize n.natAbs = N at *
            go_enter Try.func52, Try.ntmps52
            go_wp2_with fail
            go_quiet (first | (go_at_call 77; refine Calls.quiet_of_same (A.out _)) | (go_at_call 76; refine Calls.quiet_of (G.out _)))
            go_wp2
            go_ret
            exact ⟨rfl, below_drewN ((Below.refl _ _).alloc (Nat.le_refl _) _) _⟩
          · rw [if_neg (fun h => hg (hchk.1 h))]
            have gg : ((Nat.gcd n.natAbs D : Int) != 1) = true := bne_iff_ne.2 (by omega)
            clear hchk hg
            generalize Nat.gcd n.natAbs D = gc at *
            generalize n.natAbs = N at *
            go_enter Try.func52, Try.ntmps52
            go_wp2_with fail
            go_quiet (first | (go_at_call 77; refine Calls.quiet_of_same (A.out _)) | (go_at_call 76; refine Calls.quiet_of (G.out _)))
            go_wp2
            go_ret
            exact ⟨rfl, below_drewN ((Below.refl _ _).alloc (Nat.le_refl _) _) _⟩
end Go.Proofs.Ytffnopdpndpngaa.Rat
namespace Go.Proofs.Ytffnopdpndpngaa.Rat
open Go.RowKit

theorem fits_yes (a : Int) (ha : a.natAbs ≤ 1152921504606846976) (w : World) :
    Calls Try.prog 95 #[wid a] w fun e w' => e = .returned (.tuple #[.int .i64 a, .bool true]) ∧ Below w.heap.size w w' := by
  have h := (fits_raw a.sign (a.natAbs / 1152921504606846976) (a.natAbs % 1152921504606846976) (lo_lt a) (by omega) w).1 (by omega) w
  have e : (if a.sign < 0 then -((a.natAbs / 1152921504606846976 * 1152921504606846976 + a.natAbs % 1152921504606846976 : Nat) : Int) else ((a.natAbs / 1152921504606846976 * 1152921504606846976 + a.natAbs % 1152921504606846976 : Nat) : Int)) = a := by
    rw [show a.natAbs / 1152921504606846976 * 1152921504606846976 + a.natAbs % 1152921504606846976 = a.natAbs by omega]
    rcases Int.lt_trichotomy a 0 with h1 | h1 | h1
    · rw [sign_neg' h1, if_pos (by omega)]; omega
    · subst h1; rfl
    · rw [sign_pos' h1, if_neg (by omega)]; omega
  rw [e] at h
  exact h
theorem fits_no (a : Int) (hf : far a) (ha : ¬ a.natAbs ≤ 1152921504606846976) (w : World) :
    Calls Try.prog 95 #[wid a] w fun e w' => e = .returned (.tuple #[.int .i64 0, .bool false]) ∧ Below w.heap.size w w' :=
  (fits_raw a.sign (a.natAbs / 1152921504606846976) (a.natAbs % 1152921504606846976) (lo_lt a) (far_hi hf) w).2 (by omega) w

/-- A fraction, or that it does not fit. -/
def pairOut (a b : Int) : Value := if a.natAbs ≤ 1152921504606846976 ∧ b.natAbs ≤ 1152921504606846976 then .tuple #[rat a b, .int .i64 0] else .tuple #[rat 0 0, .int .i64 14]
theorem info23 : (Try.prog.info? 42).map (·.size) = some 2 := by kernel_rfl

/-- Three blocks that the call has laid: two arguments and the result's. -/
def Three (w : World) (A B C : Obj) (w1 : World) : Prop :=
  w1.heap[w.heap.size]? = some A ∧ w1.heap[w.heap.size + 1]? = some B ∧ w1.heap[w.heap.size + 1 + 1]? = some C ∧ Below w.heap.size w w1
theorem Three.start (w : World) (A B C : Obj) : Three w A B C (((w.alloc A).alloc B).alloc C) := ⟨heap3_0 w A B C, heap3_1 w A B C, heap3_2 w A B C, below3 w A B C⟩
theorem Three.step {w w1 w2 : World} {A B C : Obj} (h : Three w A B C w1) (hb : Below w1.heap.size w1 w2) : Three w A B C w2 :=
  ⟨(hb.block _ (Array.getElem?_eq_some_iff.1 h.1).1).trans h.1, (hb.block _ (Array.getElem?_eq_some_iff.1 h.2.1).1).trans h.2.1, (hb.block _ (Array.getElem?_eq_some_iff.1 h.2.2.1).1).trans h.2.2.1, h.2.2.2.trans (hb.mono h.2.2.2.size)⟩
theorem Three.first {w w2 : World} {A B C : Obj} (hb : Below (((w.alloc A).alloc B).alloc C).heap.size (((w.alloc A).alloc B).alloc C) w2) : Three w A B C w2 := (Three.start w A B C).step hb
theorem cells3 {w : World} {g : Nat} {x y z : Value} {t : TypeId} (h : w.heap[g]? = some (.cells #[x, y, z] t (0, 0))) : w.cell? ⟨g, 0, none⟩ = some x ∧ w.cell? ⟨g, 1, none⟩ = some y ∧ w.cell? ⟨g, 2, none⟩ = some z :=
  ⟨(cell_of_row _ _ _ _ _ _ h).trans rfl, (cell_of_row _ _ _ _ _ _ h).trans rfl, (cell_of_row _ _ _ _ _ _ h).trans rfl⟩
theorem cells2 {w : World} {g : Nat} {x y : Value} {t : TypeId} (h : w.heap[g]? = some (.cells #[x, y] t (0, 0))) : w.cell? ⟨g, 0, none⟩ = some x ∧ w.cell? ⟨g, 1, none⟩ = some y :=
  ⟨(cell_of_row _ _ _ _ _ _ h).trans rfl, (cell_of_row _ _ _ _ _ _ h).trans rfl⟩
theorem frozen2 {w : World} {g : Nat} {cs : Array Value} {t : TypeId} (h : w.heap[g]? = some (.cells cs t (0, 0))) : w.frozen? ⟨g, 0, none⟩ = false ∧ w.frozen? ⟨g, 1, none⟩ = false :=
  ⟨frozen_of_row _ _ _ _ _ h, frozen_of_row _ _ _ _ _ h⟩
theorem set2 {w : World} {g : Nat} {a b : Value} {t : TypeId} (x y : Value) (h : w.heap[g]? = some (.cells #[a, b] t (0, 0))) :
    ((w.setCell ⟨g, 0, none⟩ x).setCell ⟨g, 1, none⟩ y).heap[g]? = some (.cells #[x, y] t (0, 0)) :=
  heap_setCell_same _ _ _ _ _ _ (heap_setCell_same _ _ _ _ _ _ h)
theorem Three.end2 {w w1 : World} {A B C : Obj} (h : Three w A B C w1) (x y : Value) : Below w.heap.size w ((w1.setCell ⟨w.heap.size + 1 + 1, 0, none⟩ x).setCell ⟨w.heap.size + 1 + 1, 1, none⟩ y) :=
  (h.2.2.2.setCell (by simp; omega) _).setCell (by simp; omega) _

set_option maxHeartbeats 1000000 in
theorem pair_any (a b : Int) (ha : far a) (hb : far b) (w : World) :
    Calls Try.prog 78 #[wid a, wid b] w fun e w' => e = .returned (pairOut a b) ∧ Below w.heap.size w w' := by
  have hwa : ∃ x y z : Int, wid a = .agg #[.int .i64 x, .int .i64 y, .int .i64 z] := ⟨_, _, _, rfl⟩
  have hwb : ∃ x y z : Int, wid b = .agg #[.int .i64 x, .int .i64 y, .int .i64 z] := ⟨_, _, _, rfl⟩
  unfold pairOut
  obtain ⟨x1, y1, z1, hwa⟩ := hwa
  obtain ⟨x2, y2, z2, hwb⟩ := hwb
  by_cases h1 : a.natAbs ≤ 1152921504606846976
  · have qa := fun w => fits_yes a h1 w
    by_cases h2 : b.natAbs ≤ 1152921504606846976
    · have qb := fun w => fits_yes b h2 w
      rw [if_pos ⟨h1, h2⟩]
      rw [hwa] at qa ⊢
      rw [hwb] at qb ⊢
      have QA := Lib.hid qa
      have QB := Lib.hid qb
      clear qa qb hwa hwb h1 h2 ha hb
      unfold rat
      go_enter Try.func78, Try.ntmps78
      go_wp2_with fail
      refine (QA.out _).mono ?_
      rintro e w1 ⟨rfl, hb1⟩
      have T1 := Lib.hid (Three.first hb1)
      obtain ⟨d0, d1, d2⟩ := cells3 T1.out.2.1
      clear hb1
      go_wp2_with fail
      refine (QB.out _).mono ?_
      rintro e w2 ⟨rfl, hb2⟩
      have T2 := Lib.hid (T1.out.step hb2)
      obtain ⟨c0, c1⟩ := cells2 T2.out.2.2.1
      obtain ⟨f0, f1⟩ := frozen2 T2.out.2.2.1
      clear hb2 T1 d0 d1 d2
      go_wp2
      refine bodyPost_ret (res_cell_tmp rfl _ _ (w.heap.size + 1 + 1) 42 _ (0, 0) _ rfl (set2 _ _ T2.out.2.2.1) Try.underlying42 rfl info23) rfl ?_
      exact ⟨rfl, T2.out.end2 _ _⟩
    · have qb := fun w => fits_no b hb h2 w
      rw [if_neg (fun h => h2 h.2)]
      rw [hwa] at qa ⊢
      rw [hwb] at qb ⊢
      have QA := Lib.hid qa
      have QB := Lib.hid qb
      clear qa qb hwa hwb h1 h2 ha hb
      unfold rat
      go_enter Try.func78, Try.ntmps78
      go_wp2_with fail
      refine (QA.out _).mono ?_
      rintro e w1 ⟨rfl, hb1⟩
      have T1 := Lib.hid (Three.first hb1)
      obtain ⟨d0, d1, d2⟩ := cells3 T1.out.2.1
      clear hb1
      go_wp2_with fail
      refine (QB.out _).mono ?_
      rintro e w2 ⟨rfl, hb2⟩
      have T2 := Lib.hid (T1.out.step hb2)
      obtain ⟨c0, c1⟩ := cells2 T2.out.2.2.1
      obtain ⟨f0, f1⟩ := frozen2 T2.out.2.2.1
      clear hb2 T1 d0 d1 d2
      go_wp2
      refine bodyPost_ret (res_cell_tmp rfl _ _ (w.heap.size + 1 + 1) 42 _ (0, 0) _ rfl (set2 _ _ T2.out.2.2.1) Try.underlying42 rfl info23) rfl ?_
      exact ⟨rfl, T2.out.end2 _ _⟩
  · have qa := fun w => fits_no a ha h1 w
    by_cases h2 : b.natAbs ≤ 1152921504606846976
    · have qb := fun w => fits_yes b h2 w
      rw [if_neg (fun h => h1 h.1)]
      rw [hwa] at qa ⊢
      rw [hwb] at qb ⊢
      have QA := Lib.hid qa
      have QB := Lib.hid qb
      clear qa qb hwa hwb h1 h2 ha hb
      unfold rat
      go_enter Try.func78, Try.ntmps78
      go_wp2_with fail
      refine (QA.out _).mono ?_
      rintro e w1 ⟨rfl, hb1⟩
      have T1 := Lib.hid (Three.first hb1)
      obtain ⟨d0, d1, d2⟩ := cells3 T1.out.2.1
      clear hb1
      go_wp2_with fail
      refine (QB.out _).mono ?_
      rintro e w2 ⟨rfl, hb2⟩
      have T2 := Lib.hid (T1.out.step hb2)
      obtain ⟨c0, c1⟩ := cells2 T2.out.2.2.1
      obtain ⟨f0, f1⟩ := frozen2 T2.out.2.2.1
      clear hb2 T1 d0 d1 d2
      go_wp2
      refine bodyPost_ret (res_cell_tmp rfl _ _ (w.heap.size + 1 + 1) 42 _ (0, 0) _ rfl (set2 _ _ T2.out.2.2.1) Try.underlying42 rfl info23) rfl ?_
      exact ⟨rfl, T2.out.end2 _ _⟩
    · have qb := fun w => fits_no b hb h2 w
      rw [if_neg (fun h => h1 h.1)]
      rw [hwa] at qa ⊢
      rw [hwb] at qb ⊢
      have QA := Lib.hid qa
      have QB := Lib.hid qb
      clear qa qb hwa hwb h1 h2 ha hb
      unfold rat
      go_enter Try.func78, Try.ntmps78
      go_wp2_with fail
      refine (QA.out _).mono ?_
      rintro e w1 ⟨rfl, hb1⟩
      have T1 := Lib.hid (Three.first hb1)
      obtain ⟨d0, d1, d2⟩ := cells3 T1.out.2.1
      clear hb1
      go_wp2_with fail
      refine (QB.out _).mono ?_
      rintro e w2 ⟨rfl, hb2⟩
      have T2 := Lib.hid (T1.out.step hb2)
      obtain ⟨c0, c1⟩ := cells2 T2.out.2.2.1
      obtain ⟨f0, f1⟩ := frozen2 T2.out.2.2.1
      clear hb2 T1 d0 d1 d2
      go_wp2
      refine bodyPost_ret (res_cell_tmp rfl _ _ (w.heap.size + 1 + 1) 42 _ (0, 0) _ rfl (set2 _ _ T2.out.2.2.1) Try.underlying42 rfl info23) rfl ?_
      exact ⟨rfl, T2.out.end2 _ _⟩
end Go.Proofs.Ytffnopdpndpngaa.Rat
namespace Go.Proofs.Ytffnopdpndpngaa.Rat
open Go.RowKit

def inI (n : Int) : Prop := -9223372036854775808 ≤ n ∧ n ≤ 9223372036854775807
theorem check_yes (n d : Int) (h : chk n d) (w : World) :
    Calls Try.prog 52 #[.agg #[.int .i64 n, .int .i64 d]] w fun e w' => e = .returned (.int .i64 0) ∧ Below w.heap.size w w' := by
  have h2 := check_any n d w (by unfold chk at h; omega) (by unfold chk at h; omega)
  rw [if_pos h] at h2
  exact h2
theorem check_no (n d : Int) (hn : inI n) (hd : inI d) (h : ¬ chk n d) (w : World) :
    Calls Try.prog 52 #[.agg #[.int .i64 n, .int .i64 d]] w fun e w' => e = .returned (.int .i64 1) ∧ Below w.heap.size w w' := by
  have h2 := check_any n d w hn hd
  rw [if_neg h] at h2
  exact h2

/-- What a cell holds, as the world says. -/
def held (W : World) (g j : Nat) : Value := (W.cell? ⟨g, j, none⟩).getD undef
/-- Two arguments' blocks, and the result's, whatever it holds. -/
def Two (w : World) (x0 x1 y0 y1 : Value) (t : TypeId) (W : World) : Prop :=
  W.heap[w.heap.size]? = some (.cells #[x0, x1] t (0, 0)) ∧ W.heap[w.heap.size + 1]? = some (.cells #[y0, y1] t (0, 0)) ∧ (∃ z0 z1, W.heap[w.heap.size + 1 + 1]? = some (.cells #[z0, z1] t (0, 0))) ∧ Below w.heap.size w W
theorem Three.two {w W : World} {x0 x1 y0 y1 z0 z1 : Value} {t : TypeId} (h : Three w (.cells #[x0, x1] t) (.cells #[y0, y1] t) (.cells #[z0, z1] t) W) : Two w x0 x1 y0 y1 t W := ⟨h.1, h.2.1, ⟨z0, z1, h.2.2.1⟩, h.2.2.2⟩
theorem Two.step {w w1 w2 : World} {x0 x1 y0 y1 : Value} {t : TypeId} (h : Two w x0 x1 y0 y1 t w1) (hb : Below w1.heap.size w1 w2) : Two w x0 x1 y0 y1 t w2 := by
  obtain ⟨z0, z1, hz⟩ := h.2.2.1
  exact ⟨(hb.block _ (Array.getElem?_eq_some_iff.1 h.1).1).trans h.1, (hb.block _ (Array.getElem?_eq_some_iff.1 h.2.1).1).trans h.2.1, ⟨z0, z1, (hb.block _ (Array.getElem?_eq_some_iff.1 hz).1).trans hz⟩, h.2.2.2.trans (hb.mono h.2.2.2.size)⟩
theorem Two.store {w w1 : World} {x0 x1 y0 y1 : Value} {t : TypeId} (x y : Value) (h : Two w x0 x1 y0 y1 t w1) : Two w x0 x1 y0 y1 t ((w1.setCell ⟨w.heap.size + 1 + 1, 0, none⟩ x).setCell ⟨w.heap.size + 1 + 1, 1, none⟩ y) := by
  obtain ⟨z0, z1, hz⟩ := h.2.2.1
  refine ⟨?_, ?_, ⟨x, y, set2 _ _ hz⟩, (h.2.2.2.setCell (by simp; omega) _).setCell (by simp; omega) _⟩
  · rw [heap_setCell_other _ _ _ _ (by simp; omega), heap_setCell_other _ _ _ _ (by simp; omega)]; exact h.1
  · rw [heap_setCell_other _ _ _ _ (by simp), heap_setCell_other _ _ _ _ (by simp)]; exact h.2.1
theorem Two.drew {w W : World} {x0 x1 y0 y1 : Value} {t : TypeId} (h : Two w x0 x1 y0 y1 t W) : Two w x0 x1 y0 y1 t W.drew := ⟨h.1, h.2.1, h.2.2.1, h.2.2.2.drew⟩
theorem Two.all {w W : World} {x0 x1 y0 y1 : Value} {t : TypeId} (h : Two w x0 x1 y0 y1 t W) :
    W.cell? ⟨w.heap.size, 0, none⟩ = some x0 ∧ W.cell? ⟨w.heap.size, 1, none⟩ = some x1 ∧ W.cell? ⟨w.heap.size + 1, 0, none⟩ = some y0 ∧ W.cell? ⟨w.heap.size + 1, 1, none⟩ = some y1 ∧
    W.cell? ⟨w.heap.size + 1 + 1, 0, none⟩ = some (held W (w.heap.size + 1 + 1) 0) ∧ W.cell? ⟨w.heap.size + 1 + 1, 1, none⟩ = some (held W (w.heap.size + 1 + 1) 1) ∧ W.frozen? ⟨w.heap.size + 1 + 1, 0, none⟩ = false ∧ W.frozen? ⟨w.heap.size + 1 + 1, 1, none⟩ = false ∧
    Two w x0 x1 y0 y1 t W := by
  obtain ⟨z0, z1, hz⟩ := h.2.2.1
  have c := cells2 hz
  refine ⟨(cells2 h.1).1, (cells2 h.1).2, (cells2 h.2.1).1, (cells2 h.2.1).2, ?_, ?_, (frozen2 hz).1, (frozen2 hz).2, h⟩
  · unfold held; rw [c.1]; rfl
  · unfold held; rw [c.2]; rfl
theorem Two.of {w W : World} {x0 x1 y0 y1 : Value} {t : TypeId}
    (h : W.cell? ⟨w.heap.size, 0, none⟩ = some x0 ∧ W.cell? ⟨w.heap.size, 1, none⟩ = some x1 ∧ W.cell? ⟨w.heap.size + 1, 0, none⟩ = some y0 ∧ W.cell? ⟨w.heap.size + 1, 1, none⟩ = some y1 ∧
    W.cell? ⟨w.heap.size + 1 + 1, 0, none⟩ = some (held W (w.heap.size + 1 + 1) 0) ∧ W.cell? ⟨w.heap.size + 1 + 1, 1, none⟩ = some (held W (w.heap.size + 1 + 1) 1) ∧ W.frozen? ⟨w.heap.size + 1 + 1, 0, none⟩ = false ∧ W.frozen? ⟨w.heap.size + 1 + 1, 1, none⟩ = false ∧
    Two w x0 x1 y0 y1 t W) : Two w x0 x1 y0 y1 t W := h.2.2.2.2.2.2.2.2
theorem Three.drewN {w W : World} {A B C : Obj} (h : Three w A B C W) (n : Nat) : Three w A B C (W.drewN n) := ⟨h.1, h.2.1, h.2.2.1, below_drewN h.2.2.2 n⟩
theorem Three.drew {w W : World} {A B C : Obj} (h : Three w A B C W) : Three w A B C W.drew := ⟨h.1, h.2.1, h.2.2.1, h.2.2.2.drew⟩
theorem div_exact (n : Int) (g : Nat) (h : (g : Int) ∣ n) (hg : 1 ≤ g) (hn : n.natAbs ≤ 1152921504606846976) :
    n.tdiv (g : Int) = n / g ∧ (n / (g : Int)).natAbs ≤ 1152921504606846976 := by
  obtain ⟨k, rfl⟩ := h
  have hg0 : (g : Int) ≠ 0 := by omega
  rw [Int.mul_tdiv_cancel_left _ hg0, Int.mul_ediv_cancel_left _ hg0]
  rw [Int.natAbs_mul, Int.natAbs_natCast] at hn
  have hk : k.natAbs ≤ 1152921504606846976 := Nat.le_trans (Nat.le_mul_of_pos_left _ (by omega)) hn
  exact ⟨rfl, hk⟩
theorem pairOut_form (a b : Int) : ∃ n d e : Int, pairOut a b = .tuple #[.agg #[.int .i64 n, .int .i64 d], .int .i64 e] := by
  unfold pairOut rat
  split
  · exact ⟨a, b, 0, rfl⟩
  · exact ⟨0, 0, 14, rfl⟩
theorem far_mul {a b : Int} (ha : a.natAbs ≤ 1152921504606846976) (hb : b.natAbs ≤ 1152921504606846976) : far (a * b) := by
  unfold far
  rw [Int.natAbs_mul]
  exact Nat.le_trans (Nat.mul_le_mul ha hb) (by decide)
theorem gcd_dvd_l (n : Int) (D : Nat) : ((Nat.gcd n.natAbs D : Nat) : Int) ∣ n := Int.ofNat_dvd_left.2 (Nat.gcd_dvd_left _ _)
theorem gcd_dvd_r (n : Int) (D : Nat) : ((Nat.gcd n.natAbs D : Nat) : Int) ∣ (D : Int) := Int.natCast_dvd_natCast.2 (Nat.gcd_dvd_right _ _)

set_option maxHeartbeats 2000000 in
theorem mul_yes (n1 n2 : Int) (D1 D2 : Nat) (hx : chk n1 D1) (hy : chk n2 D2) (w : World) :
    Calls Try.prog 53 #[.agg #[.int .i64 n1, .int .i64 D1], .agg #[.int .i64 n2, .int .i64 D2]] w fun e w' => e = .returned (pairOut (n1 / (Nat.gcd n1.natAbs D2 : Nat) * (n2 / (Nat.gcd n2.natAbs D1 : Nat))) ((D1 : Int) / (Nat.gcd n2.natAbs D1 : Nat) * ((D2 : Int) / (Nat.gcd n1.natAbs D2 : Nat)))) ∧ Below w.heap.size w w' := by
  have KX := Lib.hid fun w => check_yes n1 D1 hx w
  have KY := Lib.hid fun w => check_yes n2 D2 hy w
  obtain ⟨⟨hd1, hd1'⟩, ⟨hn1, hn1'⟩, _⟩ := hx
  obtain ⟨⟨hd2, hd2'⟩, ⟨hn2, hn2'⟩, _⟩ := hy
  have hga : 1 ≤ Nat.gcd n1.natAbs D2 := Nat.gcd_pos_of_pos_right _ (by omega)
  have hgb : 1 ≤ Nat.gcd n2.natAbs D1 := Nat.gcd_pos_of_pos_right _ (by omega)
  have e1 := div_exact n1 _ (gcd_dvd_l n1 D2) hga (by omega)
  have e2 := div_exact n2 _ (gcd_dvd_l n2 D1) hgb (by omega)
  have e3 := div_exact D1 _ (gcd_dvd_r n2 D1) hgb (by omega)
  have e4 := div_exact D2 _ (gcd_dvd_r n1 D2) hga (by omega)
  generalize hq1 : n1 / ((Nat.gcd n1.natAbs D2 : Nat) : Int) = q1 at *
  generalize hq2 : n2 / ((Nat.gcd n2.natAbs D1 : Nat) : Int) = q2 at *
  generalize hq3 : (D1 : Int) / ((Nat.gcd n2.natAbs D1 : Nat) : Int) = q3 at *
  generalize hq4 : (D2 : Int) / ((Nat.gcd n1.natAbs D2 : Nat) : Int) = q4 at *
  have E := Lib.hid (And.intro e1 (And.intro e2 (And.intro e3 e4)))
  clear e1 e2 e3 e4 hq1 hq2 hq3 hq4
  go_enter Try.func53, Try.ntmps53
  go_wp2_with fail
  refine (KX.out _).mono ?_
  rintro e w1 ⟨rfl, hb1⟩
  have T1 := Lib.hid (Three.first hb1)
  obtain ⟨d0, d1⟩ := cells2 T1.out.2.1
  clear hb1
  go_wp2_with fail
  refine (KY.out _).mono ?_
  rintro e w2 ⟨rfl, hb2⟩
  have T2 := Lib.hid (T1.out.step hb2)
  clear hb2 T1 d0 d1 KX KY
  obtain ⟨a0, a1⟩ := cells2 T2.out.1
  obtain ⟨b0, b1⟩ := cells2 T2.out.2.1
  go_wp2
  go_quiet (first | (go_at_call 77; refine Calls.quiet_of_same (abs_same _ (by omega) (by omega) _)) | (go_at_call 76; refine Calls.quiet_of (gcd_draws _ _ (by omega) (by omega) _)))
  go_wp2
  have h3 := (T2.out.drewN nq).two.all
  obtain ⟨⟨e1, p1⟩, ⟨e2, p2⟩, ⟨e3, p3⟩, ⟨e4, p4⟩⟩ := E.out
  clear T2 a0 a1 b0 b1 E
  generalize w2.drewN nq = w3 at *
  generalize Nat.gcd n1.natAbs D2 = ga at *
  generalize Nat.gcd n2.natAbs D1 = gb at *
  have w1' : IntKind.i64.wrap q1 = q1 := IntWalk.i64_in _ (by omega)
  have w2' : IntKind.i64.wrap q2 = q2 := IntWalk.i64_in _ (by omega)
  have w3' : IntKind.i64.wrap q3 = q3 := IntWalk.i64_in _ (by omega)
  have w4' : IntKind.i64.wrap q4 = q4 := IntWalk.i64_in _ (by omega)
  have hga0 : ¬ ((ga : Int) = 0) := by omega
  have hgb0 : ¬ ((gb : Int) = 0) := by omega
  have hga1 : ¬ (ga = 0) := by omega
  have hgb1 : ¬ (gb = 0) := by omega
  obtain ⟨n3, d3, e3, hp⟩ := pairOut_form (q1 * q2) (q3 * q4)
  go_region_held3 (fun W => W.cell? ⟨w.heap.size, 0, none⟩ = some (.int .i64 n1) ∧ W.cell? ⟨w.heap.size, 1, none⟩ = some (.int .i64 D1) ∧ W.cell? ⟨w.heap.size + 1, 0, none⟩ = some (.int .i64 n2) ∧ W.cell? ⟨w.heap.size + 1, 1, none⟩ = some (.int .i64 D2) ∧ W.cell? ⟨w.heap.size + 1 + 1, 0, none⟩ = some (held W (w.heap.size + 1 + 1) 0) ∧ W.cell? ⟨w.heap.size + 1 + 1, 1, none⟩ = some (held W (w.heap.size + 1 + 1) 1) ∧ W.frozen? ⟨w.heap.size + 1 + 1, 0, none⟩ = false ∧ W.frozen? ⟨w.heap.size + 1 + 1, 1, none⟩ = false ∧ Two w (.int .i64 n1) (.int .i64 D1) (.int .i64 n2) (.int .i64 D2) 42 W)
    (first | exact (Two.drew (Two.of (by assumption))).all | exact (Two.step (Two.of (by assumption)) (by assumption)).all | exact (Two.store _ _ (Two.of (by assumption))).all)
    (first | (go_at_call 79; refine (times_any _ _ (by assumption) (by assumption) _).mono ?_; rintro e w' ⟨rfl, hb⟩) | (go_at_call 78; refine (pair_any _ _ (far_mul (by assumption) (by assumption)) (far_mul (by assumption) (by assumption)) _).mono ?_; rintro e w' ⟨rfl, hb⟩; have HT := Lib.hid (Two.step (Two.of (by assumption)) hb)))
  go_wp2
  obtain ⟨z0, z1, hz⟩ := HT.out.2.2.1
  refine bodyPost_ret (res_cell_tmp rfl _ _ (w.heap.size + 1 + 1) 42 _ (0, 0) _ rfl (set2 _ _ hz) Try.underlying42 rfl info23) rfl ?_
  exact ⟨by rw [hp]; rfl, (HT.out.2.2.2.setCell (by simp; omega) _).setCell (by simp; omega) _⟩
end Go.Proofs.Ytffnopdpndpngaa.Rat
namespace Go.Proofs.Ytffnopdpndpngaa.Rat
open Go.RowKit



set_option maxHeartbeats 1000000 in
theorem mul_no (n1 d1 n2 d2 : Int) (i1 : inI n1) (i2 : inI d1) (i3 : inI n2) (i4 : inI d2) (h : ¬ (chk n1 d1 ∧ chk n2 d2)) (w : World) :
    Calls Try.prog 53 #[.agg #[.int .i64 n1, .int .i64 d1], .agg #[.int .i64 n2, .int .i64 d2]] w fun e w' => e = .returned (.tuple #[.agg #[.int .i64 0, .int .i64 0], .int .i64 1]) ∧ Below w.heap.size w w' := by
  by_cases hx : chk n1 d1
  · have KX := Lib.hid fun w => check_yes n1 d1 hx w
    have KY := Lib.hid fun w => check_no n2 d2 i3 i4 (fun hy => h ⟨hx, hy⟩) w
    go_enter Try.func53, Try.ntmps53
    go_wp2_with fail
    refine (KX.out _).mono ?_
    rintro e w1 ⟨rfl, hb1⟩
    have T1 := Lib.hid (Three.first hb1)
    obtain ⟨d0, d1'⟩ := cells2 T1.out.2.1
    clear hb1
    go_wp2_with fail
    refine (KY.out _).mono ?_
    rintro e w2 ⟨rfl, hb2⟩
    have T2 := Lib.hid (T1.out.step hb2)
    clear hb2 T1 d0 d1' KX KY
    obtain ⟨c0, c1⟩ := cells2 T2.out.2.2.1
    obtain ⟨f0, f1⟩ := frozen2 T2.out.2.2.1
    go_wp2
    refine bodyPost_ret (res_cell_tmp rfl _ _ (w.heap.size + 1 + 1) 42 _ (0, 0) _ rfl (set2 _ _ T2.out.2.2.1) Try.underlying42 rfl info23) rfl ?_
    exact ⟨rfl, T2.out.end2 _ _⟩
  · have KX := Lib.hid fun w => check_no n1 d1 i1 i2 hx w
    go_enter Try.func53, Try.ntmps53
    go_wp2_with fail
    refine (KX.out _).mono ?_
    rintro e w1 ⟨rfl, hb1⟩
    have T2 := Lib.hid (Three.first hb1)
    clear hb1 KX
    obtain ⟨c0, c1⟩ := cells2 T2.out.2.2.1
    obtain ⟨f0, f1⟩ := frozen2 T2.out.2.2.1
    go_wp2
    refine bodyPost_ret (res_cell_tmp rfl _ _ (w.heap.size + 1 + 1) 42 _ (0, 0) _ rfl (set2 _ _ T2.out.2.2.1) Try.underlying42 rfl info23) rfl ?_
    exact ⟨rfl, T2.out.end2 _ _⟩


end Go.Proofs.Ytffnopdpndpngaa.Rat
namespace Go.Proofs.Ytffnopdpndpngaa.Rat
open Go.RowKit

theorem over_words (A n : Nat) (hn : 1 ≤ n) :
    A / 1152921504606846976 / n = A / n / 1152921504606846976 ∧
    (A / 1152921504606846976 % n * 1152921504606846976 + A % 1152921504606846976) / n = A / n % 1152921504606846976 ∧
    (A / 1152921504606846976 % n * 1152921504606846976 + A % 1152921504606846976) % n = A % n := by
  have hA : A = n * (A / 1152921504606846976 / n * 1152921504606846976) + (A / 1152921504606846976 % n * 1152921504606846976 + A % 1152921504606846976) := by
    have h1 := Nat.div_add_mod A 1152921504606846976
    have h2 := Nat.div_add_mod (A / 1152921504606846976) n
    generalize A / 1152921504606846976 / n = q at *
    generalize A / 1152921504606846976 % n = r at *
    have e : n * (q * 1152921504606846976) = n * q * 1152921504606846976 := by rw [Nat.mul_assoc]
    rw [e]
    omega
  have hlt : (A / 1152921504606846976 % n * 1152921504606846976 + A % 1152921504606846976) / n < 1152921504606846976 := by
    have h1 := Nat.mod_lt (A / 1152921504606846976) (show 0 < n by omega)
    have h2 := Nat.mod_lt A (show 0 < 1152921504606846976 by omega)
    rw [Nat.div_lt_iff_lt_mul (by omega)]
    calc A / 1152921504606846976 % n * 1152921504606846976 + A % 1152921504606846976 < (A / 1152921504606846976 % n + 1) * 1152921504606846976 := by omega
      _ ≤ n * 1152921504606846976 := Nat.mul_le_mul_right _ h1
      _ = 1152921504606846976 * n := Nat.mul_comm _ _
  have hd : A / n = A / 1152921504606846976 / n * 1152921504606846976 + (A / 1152921504606846976 % n * 1152921504606846976 + A % 1152921504606846976) / n := by
    have h : A / n = (n * (A / 1152921504606846976 / n * 1152921504606846976) + (A / 1152921504606846976 % n * 1152921504606846976 + A % 1152921504606846976)) / n := congrArg (fun x => x / n) hA
    rw [Nat.mul_add_div (by omega)] at h
    exact h
  have key : ∀ x y : Nat, x < 1152921504606846976 → (y * 1152921504606846976 + x) / 1152921504606846976 = y ∧ (y * 1152921504606846976 + x) % 1152921504606846976 = x := by
    intro x y h
    omega
  refine ⟨?_, ?_, ?_⟩
  · rw [hd]; exact (key _ _ hlt).1.symm
  · rw [hd]; exact (key _ _ hlt).2.symm
  · have h : A % n = (n * (A / 1152921504606846976 / n * 1152921504606846976) + (A / 1152921504606846976 % n * 1152921504606846976 + A % 1152921504606846976)) % n := congrArg (fun x => x % n) hA
    rw [Nat.mul_add_mod] at h
    exact h.symm

theorem far_add {a b c d : Int} (ha : a.natAbs ≤ 1152921504606846976) (hb : b.natAbs ≤ 1152921504606846976) (hc : c.natAbs ≤ 1152921504606846976) (hd : d.natAbs ≤ 1152921504606846976) : far (a * b + c * d) := by
  have h1 := Nat.mul_le_mul ha hb
  have h2 := Nat.mul_le_mul hc hd
  rw [← Int.natAbs_mul] at h1 h2
  unfold far
  have h3 := Int.natAbs_add_le (a * b) (c * d)
  have e : (1152921504606846976 * 1152921504606846976 : Nat) + 1152921504606846976 * 1152921504606846976 ≤ 2658455991569831745807614120560689152 := by decide
  omega
theorem far_div {z : Int} {n : Nat} (hz : far z) (hn : 1 ≤ n) (hd : (n : Int) ∣ z) : far (z / n) := by
  unfold far at *
  obtain ⟨k, rfl⟩ := hd
  rw [Int.mul_ediv_cancel_left _ (by omega)]
  rw [Int.natAbs_mul, Int.natAbs_natCast] at hz
  exact Nat.le_trans (Nat.le_mul_of_pos_left _ (by omega)) hz
end Go.Proofs.Ytffnopdpndpngaa.Rat
namespace Go.Proofs.Ytffnopdpndpngaa.Rat
open Go.RowKit

/-- Two arguments' blocks. -/
def Pair (w : World) (x0 x1 y0 y1 : Value) (t : TypeId) (W : World) : Prop :=
  W.heap[w.heap.size]? = some (.cells #[x0, x1] t (0, 0)) ∧ W.heap[w.heap.size + 1]? = some (.cells #[y0, y1] t (0, 0)) ∧ Below w.heap.size w W
theorem Pair.start (w : World) (x0 x1 y0 y1 : Value) (t : TypeId) : Pair w x0 x1 y0 y1 t ((w.alloc (.cells #[x0, x1] t)).alloc (.cells #[y0, y1] t)) :=
  ⟨heap_alloc2_old w _ _, heap_alloc2_new w _ _, ((Below.refl _ _).alloc (Nat.le_refl _) _).alloc (by simp) _⟩
theorem Pair.step {w w1 w2 : World} {x0 x1 y0 y1 : Value} {t : TypeId} (h : Pair w x0 x1 y0 y1 t w1) (hb : Below w1.heap.size w1 w2) : Pair w x0 x1 y0 y1 t w2 :=
  ⟨(hb.block _ (Array.getElem?_eq_some_iff.1 h.1).1).trans h.1, (hb.block _ (Array.getElem?_eq_some_iff.1 h.2.1).1).trans h.2.1, h.2.2.trans (hb.mono h.2.2.size)⟩
theorem Pair.first {w w2 : World} {x0 x1 y0 y1 : Value} {t : TypeId} (hb : Below ((w.alloc (.cells #[x0, x1] t)).alloc (.cells #[y0, y1] t)).heap.size ((w.alloc (.cells #[x0, x1] t)).alloc (.cells #[y0, y1] t)) w2) : Pair w x0 x1 y0 y1 t w2 := (Pair.start w x0 x1 y0 y1 t).step hb
theorem Pair.drew {w W : World} {x0 x1 y0 y1 : Value} {t : TypeId} (h : Pair w x0 x1 y0 y1 t W) : Pair w x0 x1 y0 y1 t W.drew := ⟨h.1, h.2.1, h.2.2.drew⟩
theorem Pair.all {w W : World} {x0 x1 y0 y1 : Value} {t : TypeId} (h : Pair w x0 x1 y0 y1 t W) :
    W.cell? ⟨w.heap.size, 0, none⟩ = some x0 ∧ W.cell? ⟨w.heap.size, 1, none⟩ = some x1 ∧ W.cell? ⟨w.heap.size + 1, 0, none⟩ = some y0 ∧ W.cell? ⟨w.heap.size + 1, 1, none⟩ = some y1 ∧ Pair w x0 x1 y0 y1 t W :=
  ⟨(cells2 h.1).1, (cells2 h.1).2, (cells2 h.2.1).1, (cells2 h.2.1).2, h⟩
theorem Pair.of {w W : World} {x0 x1 y0 y1 : Value} {t : TypeId}
    (h : W.cell? ⟨w.heap.size, 0, none⟩ = some x0 ∧ W.cell? ⟨w.heap.size, 1, none⟩ = some x1 ∧ W.cell? ⟨w.heap.size + 1, 0, none⟩ = some y0 ∧ W.cell? ⟨w.heap.size + 1, 1, none⟩ = some y1 ∧ Pair w x0 x1 y0 y1 t W) : Pair w x0 x1 y0 y1 t W := h.2.2.2.2

end Go.Proofs.Ytffnopdpndpngaa.Rat
namespace Go.Proofs.Ytffnopdpndpngaa.Rat
open Go.RowKit


/-- A product of two fractions, as it is handed back. -/
def mulOut (n1 : Int) (D1 : Nat) (n2 : Int) (D2 : Nat) : Value :=
  pairOut (n1 / (Nat.gcd n1.natAbs D2 : Nat) * (n2 / (Nat.gcd n2.natAbs D1 : Nat))) ((D1 : Int) / (Nat.gcd n2.natAbs D1 : Nat) * ((D2 : Int) / (Nat.gcd n1.natAbs D2 : Nat)))
theorem chk_flip_pos {n : Int} {D : Nat} (h : chk n D) (hp : 0 < n) : chk (D : Int) n ∧ n = (n.natAbs : Nat) := by
  obtain ⟨h1, h2, h3⟩ := h
  refine ⟨⟨⟨by omega, by omega⟩, ⟨by omega, by omega⟩, by rw [Nat.gcd_comm]; exact h3⟩, by omega⟩
theorem chk_flip_neg {n : Int} {D : Nat} (h : chk n D) (hp : n < 0) : chk (-(D : Int)) (-n) ∧ -n = (n.natAbs : Nat) := by
  obtain ⟨h1, h2, h3⟩ := h
  refine ⟨⟨⟨by omega, by omega⟩, ⟨by omega, by omega⟩, ?_⟩, by omega⟩
  rw [Int.natAbs_neg, Int.natAbs_neg, Nat.gcd_comm]
  exact h3



set_option maxHeartbeats 1000000 in
theorem floor_yes (n : Int) (D : Nat) (hx : chk n D) (w : World) :
    Calls Try.prog 54 #[.agg #[.int .i64 n, .int .i64 D]] w fun e w' => e = .returned (.int .i64 (n / (D : Int))) ∧ Below w.heap.size w w' := by
  have KX := Lib.hid fun w => check_yes n D hx w
  obtain ⟨⟨hd1, hd2⟩, ⟨hn1, hn2⟩, _⟩ := hx
  have hd0 : ¬ ((D : Int) = 0) := by omega
  by_cases hs : n < 0
  · have hfl : n / (D : Int) = -((-n + (D : Int) - 1) / (D : Int)) := by
      have h1 := Int.emod_nonneg n hd0
      have h2 := Int.emod_lt_of_pos n (show 0 < (D : Int) by omega)
      have h3 := Int.emod_add_mul_ediv n (D : Int)
      have e : -n + (D : Int) - 1 = ((D : Int) - 1 - n % (D : Int)) + (D : Int) * (-(n / (D : Int))) := by
        have : (D : Int) * (-(n / (D : Int))) = -((D : Int) * (n / (D : Int))) := by rw [Int.mul_neg]
        rw [this]; omega
      have hz : ((D : Int) - 1 - n % (D : Int)) / (D : Int) = 0 := Int.ediv_eq_zero_of_lt (by omega) (by omega)
      rw [e, Int.add_mul_ediv_left _ _ hd0, hz, Int.zero_add, Int.neg_neg]
    rw [hfl]
    have hq1 : 0 ≤ (-n + (D : Int) - 1) / (D : Int) := Int.ediv_nonneg (by omega) (by omega)
    have hq2 : (-n + (D : Int) - 1) / (D : Int) ≤ -n + (D : Int) - 1 := Int.ediv_le_self _ (by omega)
    clear hfl
    go_enter Try.func54, Try.ntmps54
    go_wp2_with fail
    refine (KX.out _).mono ?_
    rintro e w1 ⟨rfl, hb1⟩
    have hA := (hb1.block _ (by simp)).trans (heap_alloc_new w _)
    have HB := Lib.hid (((Below.refl w.heap.size w).alloc (Nat.le_refl _) (.cells #[.int .i64 n, .int .i64 (D : Int)] 42)).trans (hb1.mono (by simp)))
    clear hb1 KX
    obtain ⟨a0, a1⟩ := cells2 hA
    clear hA
    go_wp2
    go_ret
    exact ⟨by first | rfl | go_num, HB.out⟩
  · have hq1 : 0 ≤ n / (D : Int) := Int.ediv_nonneg (by omega) (by omega)
    have hq2 : n / (D : Int) ≤ n := Int.ediv_le_self _ (by omega)
    go_enter Try.func54, Try.ntmps54
    go_wp2_with fail
    refine (KX.out _).mono ?_
    rintro e w1 ⟨rfl, hb1⟩
    have hA := (hb1.block _ (by simp)).trans (heap_alloc_new w _)
    have HB := Lib.hid (((Below.refl w.heap.size w).alloc (Nat.le_refl _) (.cells #[.int .i64 n, .int .i64 (D : Int)] 42)).trans (hb1.mono (by simp)))
    clear hb1 KX
    obtain ⟨a0, a1⟩ := cells2 hA
    clear hA
    go_wp2
    go_ret
    exact ⟨by first | rfl | go_num, HB.out⟩
set_option maxHeartbeats 1000000 in
theorem floor_no (n d : Int) (i1 : inI n) (i2 : inI d) (hx : ¬ chk n d) (w : World) :
    Calls Try.prog 54 #[.agg #[.int .i64 n, .int .i64 d]] w fun e w' => e = .returned (.int .i64 0) ∧ Below w.heap.size w w' := by
  have KX := Lib.hid fun w => check_no n d i1 i2 hx w
  go_enter Try.func54, Try.ntmps54
  go_wp2_with fail
  refine (KX.out _).mono ?_
  rintro e w1 ⟨rfl, hb1⟩
  have HB := Lib.hid (((Below.refl w.heap.size w).alloc (Nat.le_refl _) (.cells #[.int .i64 n, .int .i64 d] 42)).trans (hb1.mono (by simp)))
  clear hb1 KX
  go_wp2
  go_ret
  exact ⟨rfl, HB.out⟩
end Go.Proofs.Ytffnopdpndpngaa.Rat
namespace Go.Proofs.Ytffnopdpndpngaa.Rat
open Go.RowKit

/-- What Make hands back for a denominator that is not 0. -/
def makeOut (n d : Int) : Value := pairOut (n.sign * d.sign * (n.natAbs / Nat.gcd n.natAbs d.natAbs : Nat)) (d.natAbs / Nat.gcd n.natAbs d.natAbs : Nat)
theorem pairOut_yes {a b : Int} (h1 : a.natAbs ≤ 1152921504606846976) (h2 : b.natAbs ≤ 1152921504606846976) : pairOut a b = .tuple #[.agg #[.int .i64 a, .int .i64 b], .int .i64 0] := if_pos ⟨h1, h2⟩
theorem pairOut_no {a b : Int} (h : ¬ (a.natAbs ≤ 1152921504606846976 ∧ b.natAbs ≤ 1152921504606846976)) : pairOut a b = .tuple #[.agg #[.int .i64 0, .int .i64 0], .int .i64 14] := if_neg h


end Go.Proofs.Ytffnopdpndpngaa.Rat
namespace Go.Proofs.Ytffnopdpndpngaa.Rat
open Go.RowKit

theorem big_eq : big = 1152921504606846976 := rfl
theorem chk_valid {n : Int} {D : Nat} (h : chk n D) : Valid n D := by
  obtain ⟨h1, h2, h3⟩ := h
  refine ⟨by omega, ?_, ?_, h3⟩ <;> unfold big <;> omega
theorem valid_chk {n : Int} {D : Nat} (h : Valid n D) : chk n D := by
  obtain ⟨h1, h2, h3, h4⟩ := h
  unfold big at h2 h3
  exact ⟨⟨by omega, by omega⟩, ⟨by omega, by omega⟩, h4⟩
theorem chk_nat {n d : Int} (h : chk n d) : ∃ D : Nat, d = D ∧ chk n D := by
  obtain ⟨D, rfl⟩ := Int.eq_ofNat_of_zero_le (show 0 ≤ d by have := h.1.1; omega)
  exact ⟨D, rfl, h⟩
/-- A rational, or that it does not fit. -/
def outQ (q : Rat) : Value := pairOut q.num q.den
theorem outQ_yes {q : Rat} (h : FitsQ q) : outQ q = .tuple #[rat q.num q.den, .int .i64 0] := if_pos (by unfold FitsQ big at h; rw [Int.natAbs_natCast]; exact h)
theorem outQ_no {q : Rat} (h : ¬ FitsQ q) : outQ q = .tuple #[rat 0 0, .int .i64 14] := if_neg (by unfold FitsQ big at h; rw [Int.natAbs_natCast]; exact h)

theorem mulOut_Q {n1 n2 : Int} {D1 D2 : Nat} (hx : chk n1 D1) (hy : chk n2 D2) : mulOut n1 D1 n2 D2 = outQ (toQ n1 D1 * toQ n2 D2) := by
  have vx := chk_valid hx
  have vy := chk_valid hy
  have h := mul_alg (toQ n1 D1) (toQ n2 D2) _ _ rfl rfl
  rw [vx.num, vx.den, vy.num, vy.den] at h
  unfold mulOut outQ
  rw [h.1, h.2]
  push_cast
  rfl
/-- A sum of two fractions, as it is handed back. -/
def addOut (n1 : Int) (D1 : Nat) (n2 : Int) (D2 : Nat) : Value :=
  pairOut ((n1 * ((D2 : Int) / (Nat.gcd D1 D2 : Nat)) + n2 * ((D1 : Int) / (Nat.gcd D1 D2 : Nat))) / (Nat.gcd (Nat.gcd D1 D2) (n1 * ((D2 : Int) / (Nat.gcd D1 D2 : Nat)) + n2 * ((D1 : Int) / (Nat.gcd D1 D2 : Nat))).natAbs : Nat))
    ((D1 : Int) / (Nat.gcd D1 D2 : Nat) * ((D2 : Int) / (Nat.gcd (Nat.gcd D1 D2) (n1 * ((D2 : Int) / (Nat.gcd D1 D2 : Nat)) + n2 * ((D1 : Int) / (Nat.gcd D1 D2 : Nat))).natAbs : Nat)))
theorem addOut_Q {n1 n2 : Int} {D1 D2 : Nat} (hx : chk n1 D1) (hy : chk n2 D2) : addOut n1 D1 n2 D2 = outQ (toQ n1 D1 + toQ n2 D2) := by
  have vx := chk_valid hx
  have vy := chk_valid hy
  have h := add_alg (toQ n1 D1) (toQ n2 D2) _ _ _ rfl rfl rfl
  rw [vx.num, vx.den, vy.num, vy.den] at h
  unfold addOut outQ
  rw [h.1, h.2]
  push_cast
  rfl
theorem toQ_neg (n : Int) (D : Nat) : toQ (-n) D = -toQ n D := by
  unfold toQ
  rw [Rat.neg_mkRat]
theorem chk_neg {n : Int} {D : Nat} (h : chk n D) : chk (-n) D := by
  obtain ⟨h1, h2, h3⟩ := h
  exact ⟨h1, ⟨by omega, by omega⟩, by rw [Int.natAbs_neg]; exact h3⟩
theorem subOut_Q {n1 n2 : Int} {D1 D2 : Nat} (hx : chk n1 D1) (hy : chk n2 D2) : addOut n1 D1 (-n2) D2 = outQ (toQ n1 D1 - toQ n2 D2) := by
  rw [addOut_Q hx (chk_neg hy), toQ_neg, Rat.sub_eq_add_neg]
theorem toQ_inv {n : Int} {D : Nat} (h : chk n D) (h0 : n ≠ 0) : chk (n.sign * (D : Int)) n.natAbs ∧ toQ (n.sign * (D : Int)) n.natAbs = (toQ n D)⁻¹ := by
  have hc : chk (n.sign * (D : Int)) n.natAbs := by
    obtain ⟨h1, h2, h3⟩ := h
    rcases Int.lt_or_gt_of_ne h0 with hs | hs
    · rw [sign_neg' hs]
      exact ⟨⟨by omega, by omega⟩, ⟨by omega, by omega⟩, by rw [Int.natAbs_mul, Nat.gcd_comm]; simpa using h3⟩
    · rw [sign_pos' hs]
      exact ⟨⟨by omega, by omega⟩, ⟨by omega, by omega⟩, by rw [Int.natAbs_mul, Nat.gcd_comm]; simpa using h3⟩
  refine ⟨hc, ?_⟩
  have v := chk_valid h
  have v2 := chk_valid hc
  apply Rat.ext
  · rw [v2.num, Rat.num_inv, v.num, v.den]
  · rw [v2.den, Rat.den_inv, v.num, if_neg h0]
theorem divOut_Q {n1 n2 : Int} {D1 D2 : Nat} (hx : chk n1 D1) (hy : chk n2 D2) (h0 : n2 ≠ 0) : mulOut n1 D1 (n2.sign * (D2 : Int)) n2.natAbs = outQ (toQ n1 D1 / toQ n2 D2) := by
  obtain ⟨hc, hq⟩ := toQ_inv hy h0
  rw [mulOut_Q hx hc, hq, Rat.div_def]
theorem toQ_lt {n1 n2 : Int} {D1 D2 : Nat} (hx : chk n1 D1) (hy : chk n2 D2) : toQ n1 D1 < toQ n2 D2 ↔ n1 * (D2 : Int) < n2 * (D1 : Int) := by
  have vx := chk_valid hx
  have vy := chk_valid hy
  rw [Rat.lt_iff, vx.num, vx.den, vy.num, vy.den]
theorem toQ_eq {n1 n2 : Int} {D1 D2 : Nat} (hx : chk n1 D1) (hy : chk n2 D2) (h : toQ n1 D1 = toQ n2 D2) : n1 = n2 ∧ D1 = D2 := toQ_inj (chk_valid hx) (chk_valid hy) h
/-- The sign of a difference. -/
theorem cmp_neg {n1 n2 : Int} {D1 D2 : Nat} (hx : chk n1 D1) (hy : chk n2 D2) : (n1 * (D2 : Int) + -n2 * (D1 : Int)).sign = if toQ n1 D1 < toQ n2 D2 then -1 else if toQ n2 D2 < toQ n1 D1 then 1 else 0 := by
  have e : -n2 * (D1 : Int) = -(n2 * (D1 : Int)) := Int.neg_mul _ _
  rw [e]
  by_cases h1 : toQ n1 D1 < toQ n2 D2
  · rw [if_pos h1]
    have := (toQ_lt hx hy).1 h1
    exact sign_neg' (by omega)
  · rw [if_neg h1]
    have g1 := mt (toQ_lt hx hy).2 h1
    by_cases h2 : toQ n2 D2 < toQ n1 D1
    · rw [if_pos h2]
      have := (toQ_lt hy hx).1 h2
      exact sign_pos' (by omega)
    · rw [if_neg h2]
      have g2 := mt (toQ_lt hy hx).2 h2
      rw [show n1 * (D2 : Int) + -(n2 * (D1 : Int)) = 0 by omega]
      rfl
end Go.Proofs.Ytffnopdpndpngaa.Rat
namespace Go.Proofs.Ytffnopdpndpngaa.Rat
open Go.RowKit

/-- Two arguments' blocks, the result's, and one more of three numbers. -/
def Twob (w : World) (x0 x1 y0 y1 : Value) (t : TypeId) (b : Nat) (c0 c1 c2 : Value) (u : TypeId) (W : World) : Prop :=
  Two w x0 x1 y0 y1 t W ∧ w.heap.size + 1 + 1 < b ∧ W.heap[b]? = some (.cells #[c0, c1, c2] u (0, 0))
theorem Twob.step {w w1 w2 : World} {x0 x1 y0 y1 c0 c1 c2 : Value} {t u : TypeId} {b : Nat} (h : Twob w x0 x1 y0 y1 t b c0 c1 c2 u w1) (hb : Below w1.heap.size w1 w2) : Twob w x0 x1 y0 y1 t b c0 c1 c2 u w2 :=
  ⟨h.1.step hb, h.2.1, (hb.block _ (Array.getElem?_eq_some_iff.1 h.2.2).1).trans h.2.2⟩
theorem Twob.drew {w W : World} {x0 x1 y0 y1 c0 c1 c2 : Value} {t u : TypeId} {b : Nat} (h : Twob w x0 x1 y0 y1 t b c0 c1 c2 u W) : Twob w x0 x1 y0 y1 t b c0 c1 c2 u W.drew := ⟨h.1.drew, h.2⟩
theorem Twob.store {w w1 : World} {x0 x1 y0 y1 c0 c1 c2 : Value} {t u : TypeId} {b : Nat} (x y : Value) (h : Twob w x0 x1 y0 y1 t b c0 c1 c2 u w1) : Twob w x0 x1 y0 y1 t b c0 c1 c2 u ((w1.setCell ⟨w.heap.size + 1 + 1, 0, none⟩ x).setCell ⟨w.heap.size + 1 + 1, 1, none⟩ y) := by
  have hlt := h.2.1
  refine ⟨h.1.store x y, h.2.1, ?_⟩
  rw [heap_setCell_other _ _ _ _ (by simp; omega), heap_setCell_other _ _ _ _ (by simp; omega)]
  exact h.2.2
theorem Twob.all {w W : World} {x0 x1 y0 y1 c0 c1 c2 : Value} {t u : TypeId} {b : Nat} (h : Twob w x0 x1 y0 y1 t b c0 c1 c2 u W) :
    W.cell? ⟨w.heap.size, 0, none⟩ = some x0 ∧ W.cell? ⟨w.heap.size, 1, none⟩ = some x1 ∧ W.cell? ⟨w.heap.size + 1, 0, none⟩ = some y0 ∧ W.cell? ⟨w.heap.size + 1, 1, none⟩ = some y1 ∧
    W.cell? ⟨w.heap.size + 1 + 1, 0, none⟩ = some (held W (w.heap.size + 1 + 1) 0) ∧ W.cell? ⟨w.heap.size + 1 + 1, 1, none⟩ = some (held W (w.heap.size + 1 + 1) 1) ∧ W.frozen? ⟨w.heap.size + 1 + 1, 0, none⟩ = false ∧ W.frozen? ⟨w.heap.size + 1 + 1, 1, none⟩ = false ∧
    W.cell? ⟨b, 0, none⟩ = some c0 ∧ W.cell? ⟨b, 1, none⟩ = some c1 ∧ W.cell? ⟨b, 2, none⟩ = some c2 ∧
    Twob w x0 x1 y0 y1 t b c0 c1 c2 u W :=
  have h8 := h.1.all
  have h3 := cells3 h.2.2
  ⟨h8.1, h8.2.1, h8.2.2.1, h8.2.2.2.1, h8.2.2.2.2.1, h8.2.2.2.2.2.1, h8.2.2.2.2.2.2.1, h8.2.2.2.2.2.2.2.1, h3.1, h3.2.1, h3.2.2, h⟩
theorem Twob.of {w W : World} {x0 x1 y0 y1 c0 c1 c2 : Value} {t u : TypeId} {b : Nat}
    (h : W.cell? ⟨w.heap.size, 0, none⟩ = some x0 ∧ W.cell? ⟨w.heap.size, 1, none⟩ = some x1 ∧ W.cell? ⟨w.heap.size + 1, 0, none⟩ = some y0 ∧ W.cell? ⟨w.heap.size + 1, 1, none⟩ = some y1 ∧
    W.cell? ⟨w.heap.size + 1 + 1, 0, none⟩ = some (held W (w.heap.size + 1 + 1) 0) ∧ W.cell? ⟨w.heap.size + 1 + 1, 1, none⟩ = some (held W (w.heap.size + 1 + 1) 1) ∧ W.frozen? ⟨w.heap.size + 1 + 1, 0, none⟩ = false ∧ W.frozen? ⟨w.heap.size + 1 + 1, 1, none⟩ = false ∧
    W.cell? ⟨b, 0, none⟩ = some c0 ∧ W.cell? ⟨b, 1, none⟩ = some c1 ∧ W.cell? ⟨b, 2, none⟩ = some c2 ∧
    Twob w x0 x1 y0 y1 t b c0 c1 c2 u W) : Twob w x0 x1 y0 y1 t b c0 c1 c2 u W := h.2.2.2.2.2.2.2.2.2.2.2
theorem Two.lt {w W : World} {x0 x1 y0 y1 a b c : Value} (h : Two w x0 x1 y0 y1 42 (W.alloc (.cells #[a, b, c] 100))) : w.heap.size + 1 + 1 < W.heap.size := by
  obtain ⟨z0, z1, hz⟩ := h.2.2.1
  have h1 := (Array.getElem?_eq_some_iff.1 hz).1
  rw [World.size_alloc] at h1
  rcases Nat.lt_or_ge (w.heap.size + 1 + 1) W.heap.size with h2 | h2
  · exact h2
  · have e : w.heap.size + 1 + 1 = W.heap.size := by omega
    rw [e, heap_alloc_new] at hz
    simp at hz
theorem Two.realloc {w W : World} {x0 x1 y0 y1 a b c a' b' c' : Value} (h : Two w x0 x1 y0 y1 42 (W.alloc (.cells #[a, b, c] 100))) : Two w x0 x1 y0 y1 42 (W.alloc (.cells #[a', b', c'] 100)) := by
  have hlt := h.lt
  obtain ⟨h1, h2, ⟨z0, z1, h3⟩, h4⟩ := h
  rw [heap_alloc_old _ _ (by omega)] at h1 h2 h3
  refine ⟨?_, ?_, ⟨z0, z1, ?_⟩, ⟨h4.os, h4.tape, h4.output, by rw [World.size_alloc]; omega, fun k hk => ?_⟩⟩
  · rw [heap_alloc_old _ _ (by omega)]; exact h1
  · rw [heap_alloc_old _ _ (by omega)]; exact h2
  · rw [heap_alloc_old _ _ (by omega)]; exact h3
  · have h5 := h4.block k hk
    rw [heap_alloc_old _ _ (by omega)] at h5 ⊢
    exact h5
theorem Two.store3 {w W : World} {x0 x1 y0 y1 : Value} {t : TypeId} {g : Nat} (x y z : Value) (h : Two w x0 x1 y0 y1 t W) (hg : w.heap.size + 1 + 1 < g) : Two w x0 x1 y0 y1 t (((W.setCell ⟨g, 0, none⟩ x).setCell ⟨g, 1, none⟩ y).setCell ⟨g, 2, none⟩ z) := by
  obtain ⟨h1, h2, ⟨z0, z1, h3⟩, h4⟩ := h
  refine ⟨?_, ?_, ⟨z0, z1, ?_⟩, ((h4.setCell (by simp; omega) _).setCell (by simp; omega) _).setCell (by simp; omega) _⟩
  · rw [heap_setCell_other _ _ _ _ (by simp; omega), heap_setCell_other _ _ _ _ (by simp; omega), heap_setCell_other _ _ _ _ (by simp; omega)]; exact h1
  · rw [heap_setCell_other _ _ _ _ (by simp; omega), heap_setCell_other _ _ _ _ (by simp; omega), heap_setCell_other _ _ _ _ (by simp; omega)]; exact h2
  · rw [heap_setCell_other _ _ _ _ (by simp; omega), heap_setCell_other _ _ _ _ (by simp; omega), heap_setCell_other _ _ _ _ (by simp; omega)]; exact h3
/-- A block of three cells that the call has laid. -/
def Blk (w W : World) (g : Nat) (a b c : Value) : Prop := W.heap[g]? = some (.cells #[a, b, c] 100 (0, 0)) ∧ w.heap.size + 1 + 1 < g
theorem Blk.all {w W : World} {g : Nat} {a b c : Value} (h : Blk w W g a b c) : W.cell? ⟨g, 0, none⟩ = some a ∧ W.cell? ⟨g, 1, none⟩ = some b ∧ W.cell? ⟨g, 2, none⟩ = some c ∧ W.frozen? ⟨g, 0, none⟩ = false ∧ W.frozen? ⟨g, 1, none⟩ = false ∧ W.frozen? ⟨g, 2, none⟩ = false ∧ Blk w W g a b c :=
  ⟨(cells3 h.1).1, (cells3 h.1).2.1, (cells3 h.1).2.2, frozen_of_row _ _ _ _ _ h.1, frozen_of_row _ _ _ _ _ h.1, frozen_of_row _ _ _ _ _ h.1, h⟩
theorem Blk.new {w W W2 : World} {x0 x1 y0 y1 a b c : Value} (h : Two w x0 x1 y0 y1 42 (W.alloc (.cells #[a, b, c] 100))) (hb : Below (W.alloc (.cells #[a, b, c] 100)).heap.size (W.alloc (.cells #[a, b, c] 100)) W2) : Blk w W2 W.heap.size a b c :=
  ⟨(hb.block _ (by simp)).trans (heap_alloc_new W _), h.lt⟩
theorem Two.undrew {w W : World} {x0 x1 y0 y1 : Value} {t : TypeId} (h : Two w x0 x1 y0 y1 t W.drew) : Two w x0 x1 y0 y1 t W := ⟨h.1, h.2.1, h.2.2.1, ⟨h.2.2.2.os, h.2.2.2.tape, h.2.2.2.output, h.2.2.2.size, h.2.2.2.block⟩⟩
theorem Blk.newd {w W W2 : World} {x0 x1 y0 y1 a b c : Value} (h : Two w x0 x1 y0 y1 42 (W.alloc (.cells #[a, b, c] 100)).drew) (hb : Below (W.alloc (.cells #[a, b, c] 100)).drew.heap.size (W.alloc (.cells #[a, b, c] 100)).drew W2) : Blk w W2 W.heap.size a b c :=
  ⟨(hb.block _ (by show W.heap.size < (W.alloc _).heap.size; simp)).trans (heap_alloc_new W _), h.undrew.lt⟩
theorem Blk.pass {w W W2 : World} {g : Nat} {a b c : Value} (h : Blk w W g a b c) (hb : Below W.heap.size W W2) : Blk w W2 g a b c := ⟨(hb.block _ (Array.getElem?_eq_some_iff.1 h.1).1).trans h.1, h.2⟩
theorem Blk.of {w W : World} {g : Nat} {a b c : Value} (h : W.cell? ⟨g, 0, none⟩ = some a ∧ W.cell? ⟨g, 1, none⟩ = some b ∧ W.cell? ⟨g, 2, none⟩ = some c ∧ W.frozen? ⟨g, 0, none⟩ = false ∧ W.frozen? ⟨g, 1, none⟩ = false ∧ W.frozen? ⟨g, 2, none⟩ = false ∧ Blk w W g a b c) : Blk w W g a b c := h.2.2.2.2.2.2
theorem wid_form (z : Int) : ∃ x y v : Int, wid z = .agg #[.int .i64 x, .int .i64 y, .int .i64 v] := ⟨_, _, _, rfl⟩

end Go.Proofs.Ytffnopdpndpngaa.Rat
namespace Go.Proofs.Ytffnopdpndpngaa.Rat
open Go.RowKit

theorem mul_out (n1 n2 : Int) (D1 D2 : Nat) (hx : chk n1 D1) (hy : chk n2 D2) (w : World) :
    Calls Try.prog 53 #[.agg #[.int .i64 n1, .int .i64 D1], .agg #[.int .i64 n2, .int .i64 D2]] w fun e w' => e = .returned (mulOut n1 D1 n2 D2) ∧ Below w.heap.size w w' :=
  mul_yes n1 n2 D1 D2 hx hy w


/-- What an operation of two fractions hands back. -/
def opOut (q : Rat → Rat → Rat) (n1 d1 n2 d2 : Int) : Value := if chk n1 d1 ∧ chk n2 d2 then outQ (q (toQ n1 d1.toNat) (toQ n2 d2.toNat)) else .tuple #[rat 0 0, .int .i64 1]
theorem opOut_yes {q : Rat → Rat → Rat} {n1 d1 n2 d2 : Int} (h : chk n1 d1 ∧ chk n2 d2) : opOut q n1 d1 n2 d2 = outQ (q (toQ n1 d1.toNat) (toQ n2 d2.toNat)) := if_pos h
theorem opOut_no {q : Rat → Rat → Rat} {n1 d1 n2 d2 : Int} (h : ¬ (chk n1 d1 ∧ chk n2 d2)) : opOut q n1 d1 n2 d2 = .tuple #[rat 0 0, .int .i64 1] := if_neg h
theorem refMul_any (n1 d1 n2 d2 : Int) (i1 : inI n1) (i2 : inI d1) (i3 : inI n2) (i4 : inI d2) (w : World) :
    Calls Try.prog 53 #[rat n1 d1, rat n2 d2] w fun e w' => e = .returned (opOut (· * ·) n1 d1 n2 d2) ∧ Below w.heap.size w w' := by
  by_cases h : chk n1 d1 ∧ chk n2 d2
  · rw [opOut_yes h]
    obtain ⟨D1, rfl, hx⟩ := chk_nat h.1
    obtain ⟨D2, rfl, hy⟩ := chk_nat h.2
    have h2 := mul_out n1 n2 D1 D2 hx hy w
    rw [mulOut_Q hx hy] at h2
    exact h2
  · rw [opOut_no h]
    exact mul_no n1 d1 n2 d2 i1 i2 i3 i4 h w
/-- A quotient: by 0 it is ErrDivide. -/
def divOut (n1 d1 n2 d2 : Int) : Value := if chk n1 d1 ∧ chk n2 d2 ∧ n2 = 0 then .tuple #[rat 0 0, .int .i64 26] else opOut (· / ·) n1 d1 n2 d2
/-- How two fractions compare. -/
def cmpOut (n1 d1 n2 d2 : Int) : Int := if chk n1 d1 ∧ chk n2 d2 then (if toQ n1 d1.toNat < toQ n2 d2.toNat then -1 else if toQ n2 d2.toNat < toQ n1 d1.toNat then 1 else 0) else 0
end Go.Proofs.Ytffnopdpndpngaa.Rat
