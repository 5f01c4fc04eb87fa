/- Layer 11: samples, awake; the library's Contains at samples. -/
import Derived.Test.YtobipbedkkmlcaaTaE
import Derived.Test.YtobipbedkkmlcaaTaF
import Derived.Test.YtobipbedkkmlcaaTaH
set_option maxRecDepth 100000
set_option linter.unusedVariables false
set_option linter.unusedSimpArgs false
namespace Go.Proofs.Ytobipbedkkmlcaa.Sr
open Go.RowKit
set_option maxHeartbeats 2000000 in
theorem samples_any (l : List S) (hl : l.length ≤ 1000) (ht : ∀ j (h : j < l.length), l[j].1 = (j : Int) + 1) (g c : Nat) (w : World) (hg : g < w.heap.size) (hv : ∀ j (h : j < l.length), w.cell? ⟨g, j, none⟩ = some (.int .i64 l[j].2)) :
    Calls Try.prog 33 #[.slice (some ⟨g, 0, none⟩) l.length c] w (OwnPost l w) := by
  have HV := Lib.hid hv
  have HT := Lib.hid ht
  clear hv ht
  obtain ⟨i0, hi, hz0, hz1, hz2⟩ := info_parts infoS
  have O0 : Hid (OwnS w w.heap.size (.slice none 0 0) []) := World.ownsRow_nil _ _ _ _
  have B0 : Hid (Below w.heap.size w w) := Below.refl _ _
  go_enter Try.func33, Try.ntmps33
  go_wp2
  go_loopw [3, 8] (fun vo vi wr => ∃ k : Nat, k ≤ l.length ∧ vi = .int .i64 k ∧ Hid (OwnS wr w.heap.size vo (l.take k)) ∧ Hid (Below w.heap.size w wr)) (fun _ vi _ => l.length - (intOf vi).toNat)
  case atStart => exact ⟨0, by omega, rfl, O0, B0⟩
  case round =>
    clear O0 B0
    obtain ⟨k, hk, rfl, HO, HB⟩ := hrel
    by_cases hlt : k < l.length
    · have h1 := (HB.out.cell (p := ⟨g, k, none⟩) hg).trans (HV.out k hlt)
      have hki : (k : Int) < l.length := by omega
      have HE := Lib.hid (take_snoc hlt)
      have hx := HT.out k hlt
      obtain ⟨x, hxe⟩ : ∃ x, l[k] = x := ⟨_, rfl⟩
      rw [hxe] at HE hx h1
      obtain ⟨m, hm⟩ : ∃ m, l.take k = m := ⟨_, rfl⟩
      have hml : m.length ≤ l.length := by rw [← hm]; exact List.length_take_le' _ _
      rw [hm] at HO HE
      clear hm hxe
      obtain ⟨t, v⟩ := x
      dsimp only at hx h1
      subst hx
      obtain ⟨A6, c6, e6, _⟩ := HO.out.form
      subst e6
      have O1 : Hid (∀ o1, OwnS (wr.alloc o1) w.heap.size (.slice A6 m.length c6) m) := Lib.hid fun o1 => HO.out.below ((Below.refl _ _).alloc (Nat.le_refl _) _)
      have R1 : Hid (Reads (wr.alloc (.cells #[.int .i64 ((k : Int) + 1), .int .i64 v] 33)) (wr.heap.size + 1) 2 (some ⟨wr.heap.size, 0, none⟩) 1 (cellsL [((k : Int) + 1, v)])) := Lib.hid (by
        refine (LS.of_reads (B := wr.heap.size + 1) (b := wr.heap.size) (off := 0) (l := [((k : Int) + 1, v)]) (by omega) fun j hj => ?_).reads
        have : j = 0 := by simpa using hj
        subst this
        exact ⟨by go_simp, by go_simp⟩)
      go_wp2_with (at_builtin; refine wpList_append_any _ rfl (.tmp 13) (.tmp 18) 22 rfl w.heap.size 33 i0 _ 2 16 Try.underlying22 hi hz0 hz1 hz2 rfl (by decide) (.slice A6 m.length c6) m.length (cellsL m) rfl (O1.out _) (wr.heap.size + 1) (some ⟨wr.heap.size, 0, none⟩) 1 1 (cellsL [((k : Int) + 1, v)]) rfl R1.out (cellsL_one' _) (by simp only [maxLen]; omega) (by omega) (by have := HB.out.size; simp; omega) ?_; intro v' w1 hown' hgrow _; have HO' := Lib.hid hown'; have HG := Lib.hid hgrow; clear hown' hgrow)
      have B1 : Hid (Below w.heap.size w w1) := (HB.out.alloc HB.out.size _).grown HG.out (by have := HB.out.size; simp; omega) (fun g e => (World.ownsRow.lt HO.out g e).1)
      go_roundw
      case rel => exact ⟨k + 1, by omega, by go_num, by rw [HE.out]; exact ownS_snoc HO'.out, B1⟩
      case measure => simp [intOf]; omega
    · have HO2 : Hid (OwnS wr w.heap.size u3 l) := by
        have h := HO.out
        rw [List.take_of_length_le (by omega)] at h
        exact h
      have hki : ¬ (k : Int) < l.length := by omega
      clear HO
      go_wp2
      go_ret
      exact ⟨_, rfl, HO2.out, HB.out⟩
/-- The example of the chapter. -/
def ex4 : List S := [(1, 5), (2, 8), (3, 2), (4, 4)]
theorem ex_ins : insO [(1, 5), (2, 8), (3, 2)] (4, 4) = (ex4, 0) := by decide
theorem ex_inc : incO ex4 = 7 := by decide
theorem ex_rst : rstO ex4 = 1 := by decide
theorem ex_chk : chk 2 ex4 = 0 := by decide
theorem OwnS.addr {w : World} {B : Nat} {v : Value} {l : List S} (h : OwnS w B v l) (hn : l ≠ []) : ∃ g c, v = .slice (some ⟨g, 0, none⟩) l.length c ∧ l.length ≤ c ∧ c ≤ maxLen ∧ g < w.heap.size := by
  rcases id h.2 with ⟨rfl, h0⟩ | ⟨g, cap, cur, rfl, h1, h2, h3, h4, h5⟩
  · exact absurd (List.length_eq_zero_iff.1 h0) hn
  · exact ⟨g, cap, rfl, h3, h4, (World.ownsRow.lt h g rfl).2⟩
set_option maxHeartbeats 4000000 in
theorem awake_any (w : World) : Calls Try.prog 11 #[] w fun e w' => e = .returned (.bool true) ∧ Below w.heap.size w w' := by
  have hS : Calls Try.prog 33 #[.slice (some ⟨w.heap.size, 0, none⟩) 4 4] (w.alloc (.cells #[.int .i64 5, .int .i64 8, .int .i64 2, .int .i64 4] 3)) (OwnPost ex4 (w.alloc (.cells #[.int .i64 5, .int .i64 8, .int .i64 2, .int .i64 4] 3))) := by
    refine samples_any ex4 (by decide) (fun j hj => ?_) w.heap.size 4 _ (by simp) (fun j hj => ?_)
    · match j, hj with
      | 0, _ => rfl
      | 1, _ => rfl
      | 2, _ => rfl
      | 3, _ => rfl
    · match j, hj with
      | 0, _ => go_simp; rfl
      | 1, _ => go_simp; rfl
      | 2, _ => go_simp; rfl
      | 3, _ => go_simp; rfl
  have CS := Lib.hid hS
  have B0 : Hid (Below w.heap.size w (w.alloc (.cells #[.int .i64 5, .int .i64 8, .int .i64 2, .int .i64 4] 3))) := (Below.refl _ _).alloc (Nat.le_refl _) _
  have CI : Hid (∀ (g c : Nat) (W : World), 4 ≤ c → LS W W.heap.size (some ⟨g, 0, none⟩) ex4 → Calls Try.prog 21 #[.slice (some ⟨g, 0, none⟩) 3 c, .agg #[.int .i64 4, .int .i64 4]] W (OwnPost2 (ex4, 0) W)) := Lib.hid fun g c W hc hL => by
    have h := pInsert_any [(1, 5), (2, 8), (3, 2)] (by decide) (some ⟨g, 0, none⟩) c (by simp; omega) (.inr ⟨_, _, rfl⟩) (4, 4) W (hL.take_ 3)
    rw [ex_ins] at h
    exact h
  have CN : Hid (∀ (g c : Nat) (W : World), LS W W.heap.size (some ⟨g, 0, none⟩) ex4 → Calls Try.prog 17 #[.slice (some ⟨g, 0, none⟩) 4 c] W fun e w' => e = .returned (.int .i64 7) ∧ Below W.heap.size W w') := Lib.hid fun g c W hL => by
    have h := pIncrease_any ex4 (by decide) (some ⟨g, 0, none⟩) c W hL
    rw [ex_inc] at h
    exact h
  have CR : Hid (∀ (g c : Nat) (W : World), LS W W.heap.size (some ⟨g, 0, none⟩) ex4 → Calls Try.prog 19 #[.slice (some ⟨g, 0, none⟩) 4 c] W fun e w' => e = .returned (.int .i64 1) ∧ Below W.heap.size W w') := Lib.hid fun g c W hL => by
    have h := pResets_any ex4 (by decide) (some ⟨g, 0, none⟩) c W hL
    rw [ex_rst] at h
    exact h
  have CK : Hid (∀ (g c : Nat) (W : World), LS W W.heap.size (some ⟨g, 0, none⟩) ex4 → Calls Try.prog 12 #[.int .i64 2, .slice (some ⟨g, 0, none⟩) 4 c] W fun e w' => e = .returned (.int .i64 0) ∧ Below W.heap.size W w') := Lib.hid fun g c W hL => by
    have h := pCheck_any 2 ex4 (by decide) (some ⟨g, 0, none⟩) c W hL
    rw [ex_chk] at h
    exact h
  have CE : Hid (∀ (g c : Nat) (A : Option Addr) (d : Nat) (W : World), LS W W.heap.size (some ⟨g, 0, none⟩) ex4 → LS W W.heap.size A ex4 → Calls Try.prog 14 #[.slice A 4 d, .slice (some ⟨g, 0, none⟩) 4 c] W fun e w' => e = .returned (.bool true) ∧ Below W.heap.size W w') := Lib.hid fun g c A d W hL hL2 => by
    have h := same_any ex4 ex4 (by decide) (by decide) A (some ⟨g, 0, none⟩) d c _ _ W hL2 hL
    exact h.mono fun _ _ ⟨h1, n, h2⟩ => ⟨by rw [h1]; simp, by rw [h2]; exact below_drewN (Below.refl _ _) n⟩
  have L4 : Hid (∀ (g : Nat) (W W' : World), LS W W.heap.size (some ⟨g, 0, none⟩) ex4 → Below W.heap.size W W' → LS W' W'.heap.size (some ⟨g, 0, none⟩) ex4) := Lib.hid fun g W W' h hb => (h.below hb).more hb.size
  have C4 : Hid (∀ (g : Nat) (W : World), LS W W.heap.size (some ⟨g, 0, none⟩) ex4 → g < W.heap.size ∧ W.cell? ⟨g, 6, none⟩ = some (.int .i64 4) ∧ W.cell? ⟨g, 7, none⟩ = some (.int .i64 4)) := Lib.hid fun g W h => by
    obtain ⟨b, off, e, hb, hc⟩ := h (by decide)
    cases e
    have := hc 3 (by decide)
    exact ⟨hb, by simpa [ex4] using this⟩
  clear hS
  go_enter Try.func11, Try.ntmps11
  go_wp2_with (go_at_call 33; (with_reducible refine CS.out.mono ?_); rintro e w1 ⟨v1, rfl, ho1, hb1⟩; obtain ⟨g, c, rfl, hc4, hcm, hg⟩ := ho1.addr (by decide); have HL1 : Hid (LS w1 w1.heap.size (some ⟨g, 0, none⟩) ex4) := Lib.hid (by obtain ⟨A, c', e, h⟩ := ho1.form; cases e; exact h); have HB1 : Hid (Below w.heap.size w w1) := Lib.hid (B0.out.trans (hb1.mono B0.out.size)); clear ho1 hb1)
  have hlen : ex4.length = 4 := rfl
  rw [hlen] at hc4 ⊢
  obtain ⟨hg1, k1, k2⟩ := C4.out g w1 HL1.out
  have hc3 : 3 ≤ c := by omega
  have hc3i : (3 : Int) ≤ c := by omega
  have HLd : Hid (LS w1.drew w1.drew.heap.size (some ⟨g, 0, none⟩) ex4) := Lib.hid ((HL1.out.below (Below.refl _ w1).drew).more (Nat.le_refl _))
  go_region_law (go_simp; go_at_call 21; (with_reducible refine (CI.out g c _ hc4 HLd.out).mono ?_); rintro e w2 ⟨v2, rfl, ho2, hb2⟩; have HO2 := Lib.hid ho2; have HB2 : Hid (Below w1.heap.size w1 w2) := Lib.hid ((Below.refl _ w1).drew.trans hb2); clear ho2 hb2)
  all_goals
    obtain ⟨A2, d2, rfl, hL2⟩ := HO2.out.form
    have HLA := Lib.hid hL2
    have HLB := Lib.hid (L4.out g _ _ HL1.out HB2.out)
    have HBW : Hid (Below w.heap.size w w2) := Lib.hid (HB1.out.trans (HB2.out.mono HB1.out.size))
    clear hL2 HL1 HB1 HB2 HO2 k1 k2 CS CI
    go_wp2_with fail
    refine (CN.out g c _ HLB.out).mono ?_
    rintro e w3 ⟨rfl, hb3⟩
    have HLB := Lib.hid (L4.out g _ _ HLB.out hb3)
    have HLA := Lib.hid ((HLA.out.below hb3).more hb3.size)
    have HBW : Hid (Below w.heap.size w w3) := Lib.hid (HBW.out.trans (hb3.mono HBW.out.size))
    clear hb3
    go_wp2_with fail
    refine (CR.out g c _ HLB.out).mono ?_
    rintro e w4 ⟨rfl, hb3⟩
    have HLB := Lib.hid (L4.out g _ _ HLB.out hb3)
    have HLA := Lib.hid ((HLA.out.below hb3).more hb3.size)
    have HBW : Hid (Below w.heap.size w w4) := Lib.hid (HBW.out.trans (hb3.mono HBW.out.size))
    clear hb3
    go_wp2_with fail
    refine (CE.out g c A2 d2 _ HLB.out HLA.out).mono ?_
    rintro e w5 ⟨rfl, hb3⟩
    have HLB := Lib.hid (L4.out g _ _ HLB.out hb3)
    have HBW : Hid (Below w.heap.size w w5) := Lib.hid (HBW.out.trans (hb3.mono HBW.out.size))
    clear hb3
    go_wp2_with fail
    refine (CK.out g c _ HLB.out).mono ?_
    rintro e w6 ⟨rfl, hb3⟩
    have HBW : Hid (Below w.heap.size w w6) := Lib.hid (HBW.out.trans (hb3.mono HBW.out.size))
    clear hb3
    go_wp2
    go_ret
    exact ⟨rfl, HBW.out⟩
end Go.Proofs.Ytobipbedkkmlcaa.Sr
