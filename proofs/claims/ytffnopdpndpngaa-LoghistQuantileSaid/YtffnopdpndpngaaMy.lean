/- Layer 12: the laws' awake. -/
import Derived.Test.YtffnopdpndpngaaMx
import Derived.Test.YtffnopdpndpngaaMw
set_option linter.unusedVariables false
set_option linter.unusedSimpArgs false
namespace Go.Proofs.Ytffnopdpndpngaa.Lh
open Go.RowKit
def exH : H := ⟨2, 3, 206, 1, 105, [(1, 1), (22, 2)]⟩
theorem ex_bld : bldH 2 [100, 1, 105] = exH := by
  refine H.ext2 rfl ?_ ?_ ?_ ?_ ?_ <;> decide +kernel
theorem ex_of : Of 2 [100, 1, 105] exH := by
  have := bld_of 2 [100, 1, 105]
  rwa [ex_bld] at this
theorem ex_val : Val [100, 1, 105] := by
  intro v hv
  simp only [List.mem_cons, List.not_mem_nil, or_false] at hv
  omega
theorem ex_ok : Ok exH := ex_of.ok (by decide) (by decide) ex_val (by decide) (by decide)
theorem ex_idx : idxOut 2 100 = .tuple #[.int .i64 22, .int .i64 0] := by
  unfold idxOut
  rw [if_neg (by decide), show ixI 2 100 = 22 by decide +kernel]
theorem ex_bnd : bndOut 2 22 = .tuple #[.int .i64 96, .int .i64 111, .int .i64 0] := by
  unfold bndOut
  rw [if_neg (by decide +kernel), show loI 2 22 = 96 by decide +kernel, show hiI 2 22 = 111 by decide +kernel]
theorem ex_rk : rkQ 1 2 3 = 2 := by
  rw [rkQ_is (by decide)]
  decide +kernel
theorem ex_chk2 : Rat.chk 1 2 := by
  unfold Rat.chk
  decide +kernel
theorem ex_quant : quantO exH 1 2 = .tuple #[.int .i64 96, .int .i64 105, .int .i64 0] := by
  unfold quantO
  have h1 : ¬ (chk exH ≠ 0 ∨ ¬ Rat.chk 1 2) := fun e => e.elim (fun e => e (chk_iff.2 ex_ok)) (fun e => e ex_chk2)
  rw [if_neg h1, if_neg (by decide), if_neg (by decide), if_pos (fits_small (by decide) (by decide) (by decide) (by decide) (by decide)), show exH.c = 3 from rfl, ex_rk]
  rw [show lowH exH (qI 2 exH.bs) = 96 by decide +kernel, show highH exH (qI 2 exH.bs) = 105 by decide +kernel]
set_option maxHeartbeats 4000000 in
theorem awake_any (w : World) : Calls Try.prog 19 #[] w fun e w' => e = .returned (.bool true) ∧ Below w.heap.size w w' := by
  have IX : Hid (∀ w, Calls Try.prog 12 #[.int .i64 2, .int .i64 100] w fun e w' => e = .returned (.tuple #[.int .i64 22, .int .i64 0]) ∧ Below w.heap.size w w') := Lib.hid fun w => by
    have C := pIndex_any 2 100 w
    rwa [ex_idx] at C
  have BX : Hid (∀ w, Calls Try.prog 14 #[.int .i64 2, .int .i64 22] w fun e w' => e = .returned (.tuple #[.int .i64 96, .int .i64 111, .int .i64 0]) ∧ Below w.heap.size w w') := Lib.hid fun w => by
    have C := pBounds_any 2 22 w
    rwa [ex_bnd] at C
  have BU : Hid (∀ (g : Nat) w, LI w w.heap.size (some ⟨g, 0, none⟩) [100, 1, 105] → Calls Try.prog 35 #[.int .i64 2, .slice (some ⟨g, 0, none⟩) 3 3] w fun e w' => ∃ A c, e = .returned (.tuple #[hV 2 3 206 1 105 A 2 c, .bool true]) ∧ LS w' w'.heap.size A [(1, 1), (22, 2)] ∧ Below w.heap.size w w') := Lib.hid fun g w hl => by
    have C := build_any 2 [100, 1, 105] (by decide) (by decide) ex_val (by decide) (some ⟨g, 0, none⟩) 3 w hl
    rwa [ex_bld] at C
  have QX : Hid (∀ A c w, LS w w.heap.size A [(1, 1), (22, 2)] → Calls Try.prog 29 #[hV 2 3 206 1 105 A 2 c, .agg #[.int .i64 1, .int .i64 2]] w fun e w' => e = .returned (.tuple #[.int .i64 96, .int .i64 105, .int .i64 0]) ∧ Below w.heap.size w w') := Lib.hid fun A c w hl => by
    have C := pQuantile_any 2 3 206 1 105 1 2 [(1, 1), (22, 2)] (by decide) (by unfold inI; omega) (by unfold inI; omega) (by unfold inI; omega) (by unfold inI; omega) A c w hl
    rw [show (⟨2, 3, 206, 1, 105, [(1, 1), (22, 2)]⟩ : H) = exH from rfl, ex_quant] at C
    exact C
  go_enter Try.func19, Try.ntmps19
  go_wp2_with fail
  with_reducible refine (IX.out _).mono ?_
  rintro e w1 ⟨rfl, hb1⟩
  go_wp2_with fail
  with_reducible refine (BX.out _).mono ?_
  rintro e w2 ⟨rfl, hb2⟩
  have HB2 := Lib.hid (hb1.trans (hb2.mono hb1.size))
  clear hb1 hb2
  go_wp2_with fail
  have hl3 : LI (w2.alloc (.cells #[.int .i64 100, .int .i64 1, .int .i64 105] 3)) (w2.alloc (.cells #[.int .i64 100, .int .i64 1, .int .i64 105] 3)).heap.size (some ⟨w2.heap.size, 0, none⟩) [100, 1, 105] := fun _ => ⟨_, 0, rfl, by simp, fun j hj => by
    match j, hj with
    | 0, _ => simp
    | 1, _ => simp
    | 2, _ => simp⟩
  have HB3 := Lib.hid (HB2.out.alloc HB2.out.size (.cells #[.int .i64 100, .int .i64 1, .int .i64 105] 3))
  generalize (w2.alloc (.cells #[.int .i64 100, .int .i64 1, .int .i64 105] 3)) = W3 at *
  with_reducible refine (BU.out _ _ hl3).mono ?_
  rintro e w4 ⟨A, c, rfl, hl, hb⟩
  have HB4 := Lib.hid (HB3.out.trans (hb.mono HB3.out.size))
  have HL := Lib.hid hl
  clear hb hl hl3
  go_wp2_with fail
  have HB5 := Lib.hid (HB4.out.alloc HB4.out.size (.cells #[.int .i64 2, .int .i64 3, .int .i64 206, .int .i64 1, .int .i64 105, .slice A 2 c] 29))
  have HL5 := Lib.hid (HL.out.up ((Below.refl _ w4).alloc (Nat.le_refl _) (.cells #[.int .i64 2, .int .i64 3, .int .i64 206, .int .i64 1, .int .i64 105, .slice A 2 c] 29)))
  have hx := HC.new w4 29 2 3 206 1 105 A 2 c
  have hlt : w4.heap.size < (w4.alloc (.cells #[.int .i64 2, .int .i64 3, .int .i64 206, .int .i64 1, .int .i64 105, .slice A 2 c] 29)).heap.size := by simp
  generalize w4.alloc (.cells #[.int .i64 2, .int .i64 3, .int .i64 206, .int .i64 1, .int .i64 105, .slice A 2 c] 29) = W5 at *
  with_reducible refine (QX.out _ _ _ HL5.out).mono ?_
  rintro e w6 ⟨rfl, hb⟩
  obtain ⟨x0, x1, x2, x3, x4, x5⟩ := hx.keep hlt hb
  have HB6 := Lib.hid (HB5.out.trans (hb.mono HB5.out.size))
  clear hb hx
  go_wp2
  go_ret
  exact ⟨rfl, HB6.out⟩
end Go.Proofs.Ytffnopdpndpngaa.Lh
