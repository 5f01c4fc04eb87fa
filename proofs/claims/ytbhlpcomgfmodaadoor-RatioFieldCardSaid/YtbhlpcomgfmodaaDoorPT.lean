/- The program's Format. -/
import Derived.Test.YtbhlpcomgfmodaaDoorPS
import Derived.Test.YtbhlpcomgfmodaaDoorRatV
import Derived.Lib.ItoaLen
set_option linter.unusedVariables false
set_option linter.unusedSimpArgs false
namespace Go.Proofs.YtbhlpcomgfmodaaDoor.Pro
open Go.RowKit

/-- The library's table of powers is as the program's text lays it. -/
def T10 (w : World) : Prop := Lib.TabIs Tryd.prog w "internal/strconv.uint64pow10" .u64 Lib.pow10Tab
theorem T10.below {w w' : World} (h : T10 w) (hb : Below w.heap.size w w') : T10 w' := by
  obtain ⟨g, hgn⟩ : ∃ g, Tryd.prog.globalNamed "internal/strconv.uint64pow10" = some g := Option.isSome_iff_exists.1 (by kernel_rfl)
  unfold T10 Lib.TabIs World.var? at h ⊢
  rw [hgn] at h ⊢
  simp only [Option.bind_some] at h ⊢
  have hlt : g < w.heap.size := by
    rcases Nat.lt_or_ge g w.heap.size with h' | h'
    · exact h'
    · rw [Array.getElem?_eq_none h'] at h; cases h
  rw [hb.block g hlt]
  exact h
theorem itoa_any (n : Int) (hn : inI n) (w : World) (h : T10 w) :
    Calls Tryd.prog 40 #[.int .i64 n] w fun e w' => e = .returned (.string ⟨(Lib.itoa n).toArray⟩) ∧ Below w.heap.size w w' := by
  refine (Tryd.strconv_Itoa n hn.1 hn.2 w h).mono ?_
  rintro e w' ⟨rfl, k, os, rfl⟩
  refine ⟨rfl, rfl, rfl, rfl, ?_, fun j hj => ?_⟩
  · show w.heap.size ≤ (w.heap ++ os).size
    simp
  · show (w.heap ++ os)[j]? = _
    rw [Array.getElem?_append_left hj]
theorem dec_eq : ∀ n : Nat, Lib.decDigits n = Rat.decL n := by
  intro n
  induction n using Nat.strongRecOn with
  | ind n ih =>
    have hd : UInt8.ofNat (48 + n % 10) = Rat.dig n := by
      apply UInt8.toNat.inj
      rw [Rat.dig_toNat, UInt8.toNat_ofNat']
      omega
    rw [Lib.decDigits, Rat.decL]
    by_cases h : n < 10
    · rw [dif_pos h, dif_pos h, ← hd, Nat.mod_eq_of_lt h]
    · rw [dif_neg h, dif_neg h, ih (n / 10) (by omega), hd]
theorem itoa_eq (n : Int) : Lib.itoa n = (if n < 0 then [45] else []) ++ Rat.decL n.natAbs := by
  unfold Lib.itoa
  by_cases h : n < 0
  · rw [if_pos h, if_pos h, dec_eq]; rfl
  · rw [if_neg h, if_neg h, dec_eq, show n.toNat = n.natAbs by omega]; rfl
set_option maxHeartbeats 1000000 in
set_option maxRecDepth 100000 in
theorem format_no (n d : Int) (i1 : inI n) (i2 : inI d) (hx : ¬ Rat.chk n d) (w : World) :
    Calls Tryd.prog 17 #[.agg #[.int .i64 n, .int .i64 d]] w fun e w' => e = .returned (.string ⟨#[]⟩) ∧ Below w.heap.size w w' := by
  have KX := Lib.hid fun w => check_no n d i1 i2 hx w
  clear hx i1 i2
  go_enter Tryd.func17, Tryd.ntmps17
  go_wp2_with fail
  with_reducible refine (KX.out _).mono ?_
  rintro e w1 ⟨rfl, hb1⟩
  have T1 := Lib.hid (((Has.start w).alloc #[.int .i64 n, .int .i64 d] 23).step hb1)
  clear hb1 KX
  go_wp2
  go_ret
  exact ⟨rfl, T1.out.1⟩
/-- A fraction in its block. -/
structure O1 (w : World) (n d : Int) (V : World) : Prop where
  has : Has w [(w.heap.size, #[.int .i64 n, .int .i64 d], 23)] V
theorem O1.step {w V V2 : World} {n d : Int} (hb : Below V.heap.size V V2) (h : O1 w n d V) : O1 w n d V2 := ⟨h.has.step hb⟩
theorem O1.drew {w V : World} {n d : Int} (h : O1 w n d V) : O1 w n d V.drew := ⟨h.has.drew⟩
theorem O1.all {w V : World} {n d : Int} (h : O1 w n d V) : O1 w n d V ∧ V.cell? ⟨w.heap.size, 0, none⟩ = some (.int .i64 n) ∧ V.cell? ⟨w.heap.size, 1, none⟩ = some (.int .i64 d) :=
  have ha := cells2 (h.has.row (b := w.heap.size) (cs := #[.int .i64 n, .int .i64 d]) (t := 23) (by simp))
  ⟨h, ha.1, ha.2⟩
structure O1k (w : World) (n d : Int) (V : World) : Prop where
  out : O1 w n d V
theorem O1.tab {w V : World} {n d : Int} (ht : T10 w) (h : O1 w n d V) : T10 V := ht.below h.has.1
set_option maxHeartbeats 2000000 in
set_option maxRecDepth 100000 in
theorem format_one (n : Int) (hn : inI n) (KX : Hid (∀ w : World, Calls Tryd.prog 13 #[.agg #[.int .i64 n, .int .i64 1]] w fun e w' => e = .returned (.int .i64 0) ∧ Below w.heap.size w w')) (w : World) (ht : T10 w) :
    Calls Tryd.prog 17 #[.agg #[.int .i64 n, .int .i64 1]] w fun e w' => e = .returned (.string ⟨(Lib.itoa n).toArray⟩) ∧ Below w.heap.size w w' := by
  have HT := Lib.hid ht
  have A := Lib.hid fun w h => itoa_any n hn w h
  clear ht hn
  generalize (⟨(Lib.itoa n).toArray⟩ : ByteArray) = s at *
  go_enter Tryd.func17, Tryd.ntmps17
  go_wp2_with fail
  with_reducible refine (KX.out _).mono ?_
  rintro e w1 ⟨rfl, hb1⟩
  have hk := O1k.mk (O1.step hb1 ⟨(Has.start w).alloc #[.int .i64 n, .int .i64 1] 23⟩)
  clear hb1 KX
  obtain ⟨_, c0, c1⟩ := hk.out.all
  go_wp2_with fail
  refine (A.out _ (hk.out.tab HT.out)).mono ?_
  rintro e w2 ⟨rfl, hb2⟩
  have hk2 := O1k.mk (O1.step hb2 hk.out)
  clear hb2 hk c0 c1
  go_wp2
  go_ret
  exact ⟨rfl, hk2.out.has.1⟩
set_option maxHeartbeats 2000000 in
set_option maxRecDepth 100000 in
theorem format_two (n d : Int) (hn : inI n) (hd : inI d) (h1 : ¬ d = 1) (s1 s2 : ByteArray) (hs1 : s1.size ≤ 21) (hs2 : s2.size ≤ 21)
    (A : Hid (∀ w : World, T10 w → Calls Tryd.prog 40 #[.int .i64 n] w fun e w' => e = .returned (.string s1) ∧ Below w.heap.size w w'))
    (B : Hid (∀ w : World, T10 w → Calls Tryd.prog 40 #[.int .i64 d] w fun e w' => e = .returned (.string s2) ∧ Below w.heap.size w w'))
    (KX : Hid (∀ w : World, Calls Tryd.prog 13 #[.agg #[.int .i64 n, .int .i64 d]] w fun e w' => e = .returned (.int .i64 0) ∧ Below w.heap.size w w')) (w : World) (ht : T10 w) :
    Calls Tryd.prog 17 #[.agg #[.int .i64 n, .int .i64 d]] w fun e w' => e = .returned (.string (s1 ++ ⟨#[47]⟩ ++ s2)) ∧ Below w.heap.size w w' := by
  have HT := Lib.hid ht
  have hz1 : s1.size + 1 ≤ 9223372036854775807 := by omega
  have hz2 : s1.size + 1 + s2.size ≤ 9223372036854775807 := by omega
  clear ht hn hd hs1 hs2
  go_enter Tryd.func17, Tryd.ntmps17
  go_wp2_with fail
  with_reducible refine (KX.out _).mono ?_
  rintro e w1 ⟨rfl, hb1⟩
  have hk := O1k.mk (O1.step hb1 ⟨(Has.start w).alloc #[.int .i64 n, .int .i64 d] 23⟩)
  clear hb1 KX
  obtain ⟨_, c0, c1⟩ := hk.out.all
  go_upto_region 5 with fail
  go_region_with (go_at_call 40; (first | (with_reducible refine (A.out _ (O1.tab HT.out (by (with_reducible repeat (first | exact O1k.out (by assumption) | apply O1.drew))))).mono ?_) | (with_reducible refine (B.out _ (O1.tab HT.out (by (with_reducible repeat (first | exact O1k.out (by assumption) | apply O1.drew))))).mono ?_)); rintro e w' ⟨rfl, hb⟩; (have hk := O1k.mk (O1.step hb (by (with_reducible repeat (first | exact O1k.out (by assumption) | apply O1.drew))))); (obtain ⟨_, _, _⟩ := hk.out.all))
  all_goals go_wp2
  all_goals go_ret
  all_goals exact ⟨rfl, (O1k.out (by assumption)).has.1⟩
theorem format_any (n d : Int) (i1 : inI n) (i2 : inI d) (w : World) (ht : T10 w) :
    Calls Tryd.prog 17 #[.agg #[.int .i64 n, .int .i64 d]] w fun e w' => e = .returned (.string (Rat.fmtS n d)) ∧ Below w.heap.size w w' := by
  unfold Rat.fmtS
  by_cases h : Rat.chk n d
  · rw [if_pos h]
    have KX := fun w => check_yes n d h w
    obtain ⟨D, rfl, hx⟩ := Rat.chk_nat h
    by_cases h1 : (D : Int) = 1
    · have e : Rat.fmtL n D = Lib.itoa n := by
        unfold Rat.fmtL
        rw [itoa_eq, if_neg (show ¬ (1 : Int) < D by omega), List.append_nil]
      rw [e]
      rw [h1] at KX ⊢
      exact format_one n i1 (Lib.hid KX) w ht
    · have e : (⟨(Rat.fmtL n D).toArray⟩ : ByteArray) = ⟨(Lib.itoa n).toArray⟩ ++ ⟨#[47]⟩ ++ ⟨(Lib.itoa D).toArray⟩ := by
        unfold Rat.fmtL
        rw [itoa_eq, itoa_eq, if_pos (show (1 : Int) < D by have := hx.1.1; omega), if_neg (show ¬ (D : Int) < 0 by omega)]
        apply ByteArray.ext
        simp
      rw [e]
      refine format_two n D i1 i2 h1 _ _ ?_ ?_ (Lib.hid fun w h => itoa_any n i1 w h) (Lib.hid fun w h => itoa_any D i2 w h) (Lib.hid KX) w ht
      · have := Lib.itoa_length_le n i1.1 i1.2
        show (Lib.itoa n).toArray.size ≤ 21
        simpa using this
      · have := Lib.itoa_length_le (D : Int) i2.1 i2.2
        show (Lib.itoa (D : Int)).toArray.size ≤ 21
        simpa using this
  · rw [if_neg h]
    exact format_no n d i1 i2 h w
end Go.Proofs.YtbhlpcomgfmodaaDoor.Pro
