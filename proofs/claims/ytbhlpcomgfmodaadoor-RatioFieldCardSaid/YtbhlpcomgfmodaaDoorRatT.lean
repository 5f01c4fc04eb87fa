/- The contracts of the reference of layer 3: Format. -/
import Derived.Test.YtbhlpcomgfmodaaDoorRatM
import Derived.Test.YtbhlpcomgfmodaaDoorRatP
set_option linter.unusedVariables false
set_option linter.unusedSimpArgs false
namespace Go.Proofs.YtbhlpcomgfmodaaDoor.Rat
open Go.RowKit

/-- The text of a fraction. -/
def fmtL (n d : Int) : List UInt8 := (if n < 0 then [45] else []) ++ decL n.natAbs ++ (if 1 < d then 47 :: decL d.natAbs else [])
def fmtS (n d : Int) : ByteArray := if chk n d then ⟨(fmtL n d).toArray⟩ else ⟨#[]⟩
theorem dec_size (n : Nat) (h : n ≤ 1152921504606846976) : (⟨(decL n).toArray⟩ : ByteArray).size ≤ 19 := by
  have hl := decL_len 18 n (by omega)
  show (decL n).toArray.size ≤ 19
  simpa using hl
theorem mk_app (l m : List UInt8) : (⟨(l ++ m).toArray⟩ : ByteArray) = ⟨l.toArray⟩ ++ ⟨m.toArray⟩ := by
  apply ByteArray.ext
  simp

set_option maxHeartbeats 1000000 in
theorem format_no (n d : Int) (i1 : inI n) (i2 : inI d) (hx : ¬ chk n d) (w : World) :
    Calls Tryd.prog 18 #[rat n d] w fun e w' => e = .returned (.string (fmtS n d)) ∧ Below w.heap.size w w' := by
  unfold fmtS rat
  rw [if_neg hx]
  have KX := Lib.hid fun w => check_no n d i1 i2 hx w
  go_enter Tryd.func18, Tryd.ntmps18
  go_wp2_with fail
  refine (KX.out _).mono ?_
  rintro e w1 ⟨rfl, hb1⟩
  have HB := Lib.hid (((Below.refl w.heap.size w).alloc (Nat.le_refl _) (.cells #[.int .i64 n, .int .i64 d] 23)).trans (hb1.mono (by simp)))
  clear hb1 KX
  go_wp2
  go_ret
  exact ⟨rfl, HB.out⟩

set_option maxHeartbeats 2000000 in
theorem format_yes (n : Int) (D : Nat) (hx : chk n D) (w : World) :
    Calls Tryd.prog 18 #[rat n D] w fun e w' => e = .returned (.string (fmtS n D)) ∧ Below w.heap.size w w' := by
  unfold fmtS rat
  rw [if_pos hx]
  have KX := Lib.hid fun w => check_yes n D hx w
  obtain ⟨⟨hd1, hd2⟩, ⟨hn1, hn2⟩, _⟩ := hx
  have A := Lib.hid fun w => abs_any n (by omega) (by omega) w
  have D1 := Lib.hid fun w => decimal_any n.natAbs (by omega) w
  have D2 := Lib.hid fun w => decimal_any D (by omega) w
  have z1 := dec_size n.natAbs (by omega)
  have z2 := dec_size D (by omega)
  have hO : (⟨(fmtL n D).toArray⟩ : ByteArray) = (if n < 0 then ⟨#[45]⟩ ++ ⟨(decL n.natAbs).toArray⟩ else ⟨(decL n.natAbs).toArray⟩) ++ (if (1 : Int) < D then (⟨#[47]⟩ : ByteArray) ++ ⟨(decL D).toArray⟩ else ⟨#[]⟩) := by
    unfold fmtL
    rw [Int.natAbs_natCast]
    apply ByteArray.ext
    by_cases h1 : n < 0 <;> by_cases h2 : (1 : Int) < D <;> simp [h1, h2]
  rw [hO]
  clear hO
  generalize (⟨(decL n.natAbs).toArray⟩ : ByteArray) = s1 at *
  generalize (⟨(decL D).toArray⟩ : ByteArray) = s2 at *
  generalize n.natAbs = N at *
  have ea : ∀ a b c : ByteArray, a ++ (b ++ c) = a ++ b ++ c := fun a b c => by
    apply ByteArray.ext
    simp
  have EA := Lib.hid ea
  have en : ∀ a : ByteArray, a ++ ⟨#[]⟩ = a := fun a => by
    apply ByteArray.ext
    simp
  have EN := Lib.hid en
  clear ea en
  by_cases h1 : n < 0
  · rw [if_pos h1]
    by_cases h2 : (1 : Int) < D
    · rw [if_pos h2, EA.out]
      go_enter Tryd.func18, Tryd.ntmps18
      go_wp2_with fail
      refine (KX.out _).mono ?_
      rintro e w1 ⟨rfl, hb1⟩
      have hA := (hb1.block _ (by simp)).trans (heap_alloc_new w _)
      have T1 := Lib.hid (((Below.refl w.heap.size w).alloc (Nat.le_refl _) (.cells #[.int .i64 n, .int .i64 (D : Int)] 23)).trans (hb1.mono (by simp)))
      clear hb1 KX
      obtain ⟨a0, a1⟩ := cells2 hA
      have HA := Lib.hid hA
      clear hA
      go_wp2_with fail
      refine (A.out _).mono ?_
      rintro e w2 ⟨rfl, rfl⟩
      go_wp2_with fail
      refine (D1.out _).mono ?_
      rintro e w3 ⟨rfl, hb3⟩
      have hA3 := (hb3.block _ (Array.getElem?_eq_some_iff.1 HA.out).1).trans HA.out
      have T3 := Lib.hid (T1.out.trans (hb3.mono T1.out.size))
      clear hb3 a0 a1
      obtain ⟨a0, a1⟩ := cells2 hA3
      clear hA3
      go_wp2_with fail
      refine (D2.out _).mono ?_
      rintro e w4 ⟨rfl, hb4⟩
      have T4 := Lib.hid (T3.out.trans (hb4.mono T3.out.size))
      clear hb4
      go_wp2
      go_ret
      exact ⟨rfl, T4.out⟩
    · rw [if_neg h2, EN.out]
      go_enter Tryd.func18, Tryd.ntmps18
      go_wp2_with fail
      refine (KX.out _).mono ?_
      rintro e w1 ⟨rfl, hb1⟩
      have hA := (hb1.block _ (by simp)).trans (heap_alloc_new w _)
      have T1 := Lib.hid (((Below.refl w.heap.size w).alloc (Nat.le_refl _) (.cells #[.int .i64 n, .int .i64 (D : Int)] 23)).trans (hb1.mono (by simp)))
      clear hb1 KX
      obtain ⟨a0, a1⟩ := cells2 hA
      have HA := Lib.hid hA
      clear hA
      go_wp2_with fail
      refine (A.out _).mono ?_
      rintro e w2 ⟨rfl, rfl⟩
      go_wp2_with fail
      refine (D1.out _).mono ?_
      rintro e w3 ⟨rfl, hb3⟩
      have hA3 := (hb3.block _ (Array.getElem?_eq_some_iff.1 HA.out).1).trans HA.out
      have T3 := Lib.hid (T1.out.trans (hb3.mono T1.out.size))
      clear hb3 a0 a1
      obtain ⟨a0, a1⟩ := cells2 hA3
      clear hA3
      go_wp2
      go_ret
      exact ⟨rfl, T3.out⟩
  · rw [if_neg h1]
    by_cases h2 : (1 : Int) < D
    · rw [if_pos h2, EA.out]
      go_enter Tryd.func18, Tryd.ntmps18
      go_wp2_with fail
      refine (KX.out _).mono ?_
      rintro e w1 ⟨rfl, hb1⟩
      have hA := (hb1.block _ (by simp)).trans (heap_alloc_new w _)
      have T1 := Lib.hid (((Below.refl w.heap.size w).alloc (Nat.le_refl _) (.cells #[.int .i64 n, .int .i64 (D : Int)] 23)).trans (hb1.mono (by simp)))
      clear hb1 KX
      obtain ⟨a0, a1⟩ := cells2 hA
      have HA := Lib.hid hA
      clear hA
      go_wp2_with fail
      refine (A.out _).mono ?_
      rintro e w2 ⟨rfl, rfl⟩
      go_wp2_with fail
      refine (D1.out _).mono ?_
      rintro e w3 ⟨rfl, hb3⟩
      have hA3 := (hb3.block _ (Array.getElem?_eq_some_iff.1 HA.out).1).trans HA.out
      have T3 := Lib.hid (T1.out.trans (hb3.mono T1.out.size))
      clear hb3 a0 a1
      obtain ⟨a0, a1⟩ := cells2 hA3
      clear hA3
      go_wp2_with fail
      refine (D2.out _).mono ?_
      rintro e w4 ⟨rfl, hb4⟩
      have T4 := Lib.hid (T3.out.trans (hb4.mono T3.out.size))
      clear hb4
      go_wp2
      go_ret
      exact ⟨rfl, T4.out⟩
    · rw [if_neg h2, EN.out]
      go_enter Tryd.func18, Tryd.ntmps18
      go_wp2_with fail
      refine (KX.out _).mono ?_
      rintro e w1 ⟨rfl, hb1⟩
      have hA := (hb1.block _ (by simp)).trans (heap_alloc_new w _)
      have T1 := Lib.hid (((Below.refl w.heap.size w).alloc (Nat.le_refl _) (.cells #[.int .i64 n, .int .i64 (D : Int)] 23)).trans (hb1.mono (by simp)))
      clear hb1 KX
      obtain ⟨a0, a1⟩ := cells2 hA
      have HA := Lib.hid hA
      clear hA
      go_wp2_with fail
      refine (A.out _).mono ?_
      rintro e w2 ⟨rfl, rfl⟩
      go_wp2_with fail
      refine (D1.out _).mono ?_
      rintro e w3 ⟨rfl, hb3⟩
      have hA3 := (hb3.block _ (Array.getElem?_eq_some_iff.1 HA.out).1).trans HA.out
      have T3 := Lib.hid (T1.out.trans (hb3.mono T1.out.size))
      clear hb3 a0 a1
      obtain ⟨a0, a1⟩ := cells2 hA3
      clear hA3
      go_wp2
      go_ret
      exact ⟨rfl, T3.out⟩
end Go.Proofs.YtbhlpcomgfmodaaDoor.Rat
