/- Layer 11: the reference's Insert. -/
import Derived.Test.YtobipbedkkmlcaaSrV
set_option linter.unusedVariables false
set_option linter.unusedSimpArgs false
namespace Go.Proofs.Ytobipbedkkmlcaa.Sr
open Go.RowKit
theorem insO_bad {l : List S} {x : S} (h : chk 1 l ≠ 0) : insO l x = ([], 1) := if_pos h
theorem insO_range {l : List S} {x : S} (h : chk 1 l = 0) (h2 : okS x = false) : insO l x = ([], 2) := by
  unfold insO
  rw [if_neg (by omega), if_pos h2]
theorem insO_clash {l : List S} {x : S} {v : Int} (h1 : chk 1 l = 0) (h2 : okS x = true) (h3 : hit l x.1 = some v) (h4 : v ≠ x.2) : insO l x = ([], 16) := by
  unfold insO
  rw [if_neg (by omega), if_neg (by rw [h2]; decide), h3]
  simp only
  rw [if_neg h4]
theorem insO_full {l : List S} {x : S} (h1 : chk 1 l = 0) (h2 : okS x = true) (h3 : hit l x.1 = none) (h4 : 2000 ≤ l.length) : insO l x = ([], 4) := by
  unfold insO
  rw [if_neg (by omega), if_neg (by rw [h2]; decide), h3]
  simp only
  rw [if_pos h4]
theorem insO_same {l : List S} {x : S} {v : Int} (h1 : chk 1 l = 0) (h2 : okS x = true) (h3 : hit l x.1 = some v) (h4 : v = x.2) : insO l x = ([], 6) := insO_exists h1 h2 (by rw [h3, h4])
set_option maxHeartbeats 4000000 in
/-- What Insert refuses. -/
theorem refInsert_no (l : List S) (hl : l.length ≤ 100000) (A : Option Addr) (c : Nat) (x : S) (w : World) (hA : LS w w.heap.size A l) (hno : (insO l x).2 ≠ 0) :
    Calls Try.prog 22 #[.slice A l.length c, smpV x] w (OwnPost2 (insO l x) w) := by
  have B0 : Hid (Below w.heap.size w (w.alloc (.cells #[.int .i64 x.1, .int .i64 x.2] 33))) := (Below.refl _ _).alloc (Nat.le_refl _) _
  have hA1 : LS (w.alloc (.cells #[.int .i64 x.1, .int .i64 x.2] 33)) (w.alloc (.cells #[.int .i64 x.1, .int .i64 x.2] 33)).heap.size A l := (hA.below B0.out).more (by simp)
  have gx1' : (w.alloc (.cells #[.int .i64 x.1, .int .i64 x.2] 33)).cell? ⟨w.heap.size, 0, none⟩ = some (.int .i64 x.1) := by go_simp
  have gx2' : (w.alloc (.cells #[.int .i64 x.1, .int .i64 x.2] 33)).cell? ⟨w.heap.size, 1, none⟩ = some (.int .i64 x.2) := by go_simp
  have C := Lib.hid (valid_any l hl A c _ hA1)
  have CS := Lib.hid (sample_any x)
  have PP := Lib.hid fun w1 (hb : Below w.heap.size w w1) => place_any l hl x.1 A c w.heap.size w1 (hA.below hb)
  have HA := Lib.hid hA
  clear hA hA1
  by_cases hc : chk 1 l ≠ 0
  · have HE := Lib.hid (insO_bad (x := x) hc)
    rw [decide_eq_false hc] at C
    clear hc hno
    go_enter Try.func22, Try.ntmps22
    go_wp2_with (go_at_call 28; (with_reducible refine C.out.mono ?_); rintro e w1 ⟨rfl, hb1⟩; have gx1 := (hb1.cell (p := ⟨w.heap.size, 0, none⟩) (by simp)).trans gx1'; have gx2 := (hb1.cell (p := ⟨w.heap.size, 1, none⟩) (by simp)).trans gx2'; have hbx := Nat.lt_of_lt_of_le (show w.heap.size < (w.alloc (.cells #[.int .i64 x.1, .int .i64 x.2] 33)).heap.size by simp) hb1.size; have HB1 := Lib.hid (B0.out.trans (hb1.mono (by simp))); clear hb1)
    go_ret2
    rw [HE.out]
    exact made_out HB1.out 1
  have hc : chk 1 l = 0 := by omega
  rw [decide_eq_true hc] at C
  by_cases hx : okS x = false
  · have HE := Lib.hid (insO_range hc hx)
    rw [hx] at CS
    clear hc hno hx
    go_enter Try.func22, Try.ntmps22
    go_wp2_with (first | (go_at_call 28; (with_reducible refine C.out.mono ?_); rintro e w1 ⟨rfl, hb1⟩; have gx1 := (hb1.cell (p := ⟨w.heap.size, 0, none⟩) (by simp)).trans gx1'; have gx2 := (hb1.cell (p := ⟨w.heap.size, 1, none⟩) (by simp)).trans gx2'; have hbx := Nat.lt_of_lt_of_le (show w.heap.size < (w.alloc (.cells #[.int .i64 x.1, .int .i64 x.2] 33)).heap.size by simp) hb1.size; have HB1 := Lib.hid (B0.out.trans (hb1.mono (by simp))); clear hb1) | (go_at_call 35; (with_reducible refine (CS.out _).mono ?_); rintro e w2 ⟨rfl, hb2⟩; have hy1 := (hb2.cell (p := ⟨w.heap.size, 0, none⟩) hbx).trans gx1; have hy2 := (hb2.cell (p := ⟨w.heap.size, 1, none⟩) hbx).trans gx2; have hby := Nat.lt_of_lt_of_le hbx hb2.size; have HB2 := Lib.hid (HB1.out.trans (hb2.mono HB1.out.size)); clear hb2))
    go_ret2
    rw [HE.out]
    exact made_out HB2.out 2
  have hx : okS x = true := by simpa using hx
  rw [hx] at CS
  have hpl := plc_le l x.1
  obtain ⟨k, hkk⟩ : ∃ k, plc l x.1 = k := ⟨_, rfl⟩
  simp only [hkk] at PP
  rw [hkk] at hpl
  by_cases hh : ∃ h : k < l.length, l[k].1 = x.1
  · obtain ⟨hlt, ht⟩ := hh
    have hit1 := hit_at hkk hlt ht
    obtain ⟨b, off, rfl, hb, h1', h2'⟩ := HA.out.at_ hlt
    have HC : Hid (∀ w1, Below w.heap.size w w1 → w1.cell? ⟨b, off + k * 2, none⟩ = some (.int .i64 l[k].1) ∧ w1.cell? ⟨b, off + k * 2 + 1, none⟩ = some (.int .i64 l[k].2)) := fun w1 h => ⟨(h.cell (p := ⟨b, off + k * 2, none⟩) hb).trans h1', (h.cell (p := ⟨b, off + k * 2 + 1, none⟩) hb).trans h2'⟩
    have hki : (k : Int) < (l.length : Int) := by omega
    have hkd : decide (k < l.length) = true := decide_eq_true hlt
    clear h1' h2'
    by_cases hv : l[k].2 = x.2
    · have HE := Lib.hid (insO_same hc hx hit1 hv)
      rw [ht, hv] at HC
      clear hc hno hx hit1 ht hv hkk
      go_enter Try.func22, Try.ntmps22
      go_wp2_with (first | (go_at_call 28; (with_reducible refine C.out.mono ?_); rintro e w1 ⟨rfl, hb1⟩; have gx1 := (hb1.cell (p := ⟨w.heap.size, 0, none⟩) (by simp)).trans gx1'; have gx2 := (hb1.cell (p := ⟨w.heap.size, 1, none⟩) (by simp)).trans gx2'; have hbx := Nat.lt_of_lt_of_le (show w.heap.size < (w.alloc (.cells #[.int .i64 x.1, .int .i64 x.2] 33)).heap.size by simp) hb1.size; have HB1 := Lib.hid (B0.out.trans (hb1.mono (by simp))); clear hb1) | (go_at_call 35; (with_reducible refine (CS.out _).mono ?_); rintro e w2 ⟨rfl, hb2⟩; have hy1 := (hb2.cell (p := ⟨w.heap.size, 0, none⟩) hbx).trans gx1; have hy2 := (hb2.cell (p := ⟨w.heap.size, 1, none⟩) hbx).trans gx2; have hby := Nat.lt_of_lt_of_le hbx hb2.size; have HB2 := Lib.hid (HB1.out.trans (hb2.mono HB1.out.size)); clear hb2) | (go_at_call 41; (with_reducible refine (PP.out _ HB2.out).mono ?_); rintro e w3 ⟨rfl, rfl⟩))
      obtain ⟨k1, k2⟩ := HC.out _ HB2.out
      have hbw := Nat.lt_of_lt_of_le hb HB2.out.size
      go_quiet (fail)
      go_wp2
      go_quiet (fail)
      go_wp2
      go_ret2
      rw [HE.out]
      exact made_out (below_drewN HB2.out _) 6
    · have HE := Lib.hid (insO_clash hc hx hit1 hv)
      rw [ht] at HC
      have hvb : (l[k].2 == x.2) = false := by simpa using hv
      obtain ⟨y, hy⟩ : ∃ y, l[k].2 = y := ⟨_, rfl⟩
      rw [hy] at HC hvb
      clear hc hno hx hit1 ht hv hkk hy
      go_enter Try.func22, Try.ntmps22
      go_wp2_with (first | (go_at_call 28; (with_reducible refine C.out.mono ?_); rintro e w1 ⟨rfl, hb1⟩; have gx1 := (hb1.cell (p := ⟨w.heap.size, 0, none⟩) (by simp)).trans gx1'; have gx2 := (hb1.cell (p := ⟨w.heap.size, 1, none⟩) (by simp)).trans gx2'; have hbx := Nat.lt_of_lt_of_le (show w.heap.size < (w.alloc (.cells #[.int .i64 x.1, .int .i64 x.2] 33)).heap.size by simp) hb1.size; have HB1 := Lib.hid (B0.out.trans (hb1.mono (by simp))); clear hb1) | (go_at_call 35; (with_reducible refine (CS.out _).mono ?_); rintro e w2 ⟨rfl, hb2⟩; have hy1 := (hb2.cell (p := ⟨w.heap.size, 0, none⟩) hbx).trans gx1; have hy2 := (hb2.cell (p := ⟨w.heap.size, 1, none⟩) hbx).trans gx2; have hby := Nat.lt_of_lt_of_le hbx hb2.size; have HB2 := Lib.hid (HB1.out.trans (hb2.mono HB1.out.size)); clear hb2) | (go_at_call 41; (with_reducible refine (PP.out _ HB2.out).mono ?_); rintro e w3 ⟨rfl, rfl⟩))
      obtain ⟨k1, k2⟩ := HC.out _ HB2.out
      have hbw := Nat.lt_of_lt_of_le hb HB2.out.size
      go_quiet (fail)
      go_wp2
      go_quiet (fail)
      go_wp2
      go_ret2
      rw [HE.out]
      exact made_out (below_drewN HB2.out _) 16
  · have hnone : hit l x.1 = none := by
      by_cases hlt : k < l.length
      · exact hit_not hkk hlt fun e => hh ⟨hlt, e⟩
      · exact hit_end (by omega)
    have h2000 : 2000 ≤ l.length := by
      rcases Nat.lt_or_ge l.length 2000 with h | h
      · rw [insO_ok hc hx hnone h] at hno
        exact (hno rfl).elim
      · exact h
    have HE := Lib.hid (insO_full hc hx hnone h2000)
    have hbig : (l.length : Int) ≥ 2000 := by omega
    clear hc hno hx hnone
    by_cases hlt : k < l.length
    · obtain ⟨b, off, rfl, hb, h1', h2'⟩ := HA.out.at_ hlt
      have HC : Hid (∀ w1, Below w.heap.size w w1 → w1.cell? ⟨b, off + k * 2, none⟩ = some (.int .i64 l[k].1)) := fun w1 h => (h.cell (p := ⟨b, off + k * 2, none⟩) hb).trans h1'
      have hki : (k : Int) < (l.length : Int) := by omega
      have hkd : decide (k < l.length) = true := decide_eq_true hlt
      have htb : (l[k].1 == x.1) = false := by simpa using fun e => hh ⟨hlt, e⟩
      obtain ⟨y, hy⟩ : ∃ y, l[k].1 = y := ⟨_, rfl⟩
      rw [hy] at HC htb
      clear h1' h2' hh hkk hy
      go_enter Try.func22, Try.ntmps22
      go_wp2_with (first | (go_at_call 28; (with_reducible refine C.out.mono ?_); rintro e w1 ⟨rfl, hb1⟩; have gx1 := (hb1.cell (p := ⟨w.heap.size, 0, none⟩) (by simp)).trans gx1'; have gx2 := (hb1.cell (p := ⟨w.heap.size, 1, none⟩) (by simp)).trans gx2'; have hbx := Nat.lt_of_lt_of_le (show w.heap.size < (w.alloc (.cells #[.int .i64 x.1, .int .i64 x.2] 33)).heap.size by simp) hb1.size; have HB1 := Lib.hid (B0.out.trans (hb1.mono (by simp))); clear hb1) | (go_at_call 35; (with_reducible refine (CS.out _).mono ?_); rintro e w2 ⟨rfl, hb2⟩; have hy1 := (hb2.cell (p := ⟨w.heap.size, 0, none⟩) hbx).trans gx1; have hy2 := (hb2.cell (p := ⟨w.heap.size, 1, none⟩) hbx).trans gx2; have hby := Nat.lt_of_lt_of_le hbx hb2.size; have HB2 := Lib.hid (HB1.out.trans (hb2.mono HB1.out.size)); clear hb2) | (go_at_call 41; (with_reducible refine (PP.out _ HB2.out).mono ?_); rintro e w3 ⟨rfl, rfl⟩))
      have k1 := HC.out _ HB2.out
      have hbw := Nat.lt_of_lt_of_le hb HB2.out.size
      go_quiet (fail)
      go_wp2
      go_ret2
      rw [HE.out]
      exact made_out (below_drewN HB2.out _) 4
    · have hki : ¬ (k : Int) < (l.length : Int) := by omega
      have hkd : decide (k < l.length) = false := decide_eq_false hlt
      have hkd2 : decide ((k : Int) < (l.length : Int)) = false := decide_eq_false hki
      clear hh hkk
      go_enter Try.func22, Try.ntmps22
      go_wp2_with (first | (go_at_call 28; (with_reducible refine C.out.mono ?_); rintro e w1 ⟨rfl, hb1⟩; have gx1 := (hb1.cell (p := ⟨w.heap.size, 0, none⟩) (by simp)).trans gx1'; have gx2 := (hb1.cell (p := ⟨w.heap.size, 1, none⟩) (by simp)).trans gx2'; have hbx := Nat.lt_of_lt_of_le (show w.heap.size < (w.alloc (.cells #[.int .i64 x.1, .int .i64 x.2] 33)).heap.size by simp) hb1.size; have HB1 := Lib.hid (B0.out.trans (hb1.mono (by simp))); clear hb1) | (go_at_call 35; (with_reducible refine (CS.out _).mono ?_); rintro e w2 ⟨rfl, hb2⟩; have hy1 := (hb2.cell (p := ⟨w.heap.size, 0, none⟩) hbx).trans gx1; have hy2 := (hb2.cell (p := ⟨w.heap.size, 1, none⟩) hbx).trans gx2; have hby := Nat.lt_of_lt_of_le hbx hb2.size; have HB2 := Lib.hid (HB1.out.trans (hb2.mono HB1.out.size)); clear hb2) | (go_at_call 41; (with_reducible refine (PP.out _ HB2.out).mono ?_); rintro e w3 ⟨rfl, rfl⟩))
      go_quiet (fail)
      go_wp2
      go_ret2
      rw [HE.out]
      exact made_out (below_drewN HB2.out _) 4
end Go.Proofs.Ytobipbedkkmlcaa.Sr
