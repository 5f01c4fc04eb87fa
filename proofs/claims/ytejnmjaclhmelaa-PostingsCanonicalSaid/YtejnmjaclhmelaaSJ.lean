/- Layer 8: the program's Merge, Or. -/
import Derived.Test.YtejnmjaclhmelaaSI
set_option linter.unusedVariables false
set_option linter.unusedSimpArgs false
namespace Go.Proofs.Ytejnmjaclhmelaa.Po
open Go.RowKit
def invB (l : List Int) : Bool := chk l != 0
theorem inv_yes {l : List Int} (h : invB l = true) : chk l ≠ 0 := by unfold invB at h; rwa [bne_iff_ne] at h
theorem inv_no {l : List Int} (h : invB l = false) : chk l = 0 := by unfold invB at h; simpa using h
theorem any_inv {ls : List (List Int)} (h : ls.any invB = false) : ∀ l ∈ ls, chk l = 0 := fun l hl => inv_no (by
  have := List.any_eq_false.1 h l hl
  simpa using this)
def FoundI (ls : List (List Int)) (k : Int) : Prop := 0 ≤ k ↔ ls.any invB = true
theorem FoundI.yes {ls : List (List Int)} {k : Nat} {l : List Int} (h : l ∈ ls) (h2 : invB l = true) : FoundI ls (k : Int) := ⟨fun _ => List.any_eq_true.2 ⟨_, h, h2⟩, fun _ => by omega⟩
theorem FoundI.no {ls : List (List Int)} (h : ls.any invB = false) : FoundI ls (-1) := ⟨fun h => absurd h (by decide), fun h2 => by rw [h] at h2; cases h2⟩
theorem IntsL.onto {w v : World} {sv : Value} {ls : List (List Int)} (h : IntsL w.heap.size w sv ls) (hb : Below w.heap.size w v) : IntsL v.heap.size v sv ls := (h.below hb).mono hb.size
set_option maxHeartbeats 2000000 in
set_option maxRecDepth 100000 in
theorem invIndex_any (CF : Hid (∀ (l : List Int) (sv : Value) (v : World), l.length ≤ 1000000 → Ints v.heap.size v sv l → Calls Try.prog 42 #[sv] v fun e w' => e = .returned (.bool (invB l)) ∧ Below v.heap.size v w')) (ls : List (List Int)) (hn : ls.length ≤ 1000000) (hl : tot ls ≤ 1000000) (sv : Value) (w : World) (hI : IntsL w.heap.size w sv ls) :
    Calls Try.prog 52 #[sv, .func (.func 42) #[] #[]] w fun e w' => (∃ k : Int, e = .returned (.int .i64 k) ∧ FoundI ls k ∧ -1 ≤ k) ∧ Below w.heap.size w w' := by
  obtain ⟨a, cap, rfl, V, h1, h2⟩ := hI
  have HC := Lib.hid h1
  have CG : Hid (∀ j v, j < ls.length → Below w.heap.size w v → Calls Try.prog 42 #[V j] v fun e w' => e = .returned (.bool (invB (ls[j]?.getD []))) ∧ Below v.heap.size v w') := Lib.hid fun j v hj hb => CF.out _ (V j) v (Nat.le_trans (len_tot hj) hl) ((h2 j hj).onto hb)
  clear h1 h2 CF
  go_enter Try.func52, Try.ntmps52
  go_wp2
  go_loopw [8] (fun vi wr => ∃ k : Nat, k ≤ ls.length ∧ vi = .int .i64 k ∧ Hid (∀ l ∈ ls.take k, invB l = false) ∧ Hid (Below w.heap.size w wr)) (fun vi _ => ls.length - (intOf vi).toNat)
  case atStart => exact ⟨0, Nat.zero_le _, rfl, Lib.hid (by simp), Lib.hid (Below.refl _ _)⟩
  case round =>
    obtain ⟨k, hk, rfl, HP, HB⟩ := hrel
    by_cases hlt : k < ls.length
    · obtain ⟨b, o, rfl, hb, hc⟩ := HC.out (by omega)
      have hcell := (HB.out.cell (p := ⟨b, o + k, none⟩) (by simp; omega)).trans (hc k hlt)
      have hi' : (k : Int) < ls.length := by omega
      have HG := Lib.hid (CG.out k _ hlt HB.out)
      have HM := Lib.hid (at_memL hlt)
      have HT : Hid (ls.take (k + 1) = ls.take k ++ [ls[k]?.getD []]) := Lib.hid (by rw [List.take_add_one, List.getElem?_eq_getElem hlt]; rfl)
      clear hc
      generalize V k = vk at *
      cases hz : invB (ls[k]?.getD []) with
      | false =>
        have HZ := Lib.hid hz
        rw [hz] at HG
        clear hz
        go_wp2_with fail
        refine HG.out.mono ?_
        rintro e w1 ⟨rfl, hb1⟩
        have B1 := Lib.hid (HB.out.trans (hb1.mono HB.out.size))
        clear hb1
        go_wp2
        go_roundw
        case rel => exact ⟨k + 1, by omega, by go_num, Lib.hid (by rw [HT.out]; intro l hl; rcases List.mem_append.1 hl with hl | hl; exact HP.out l hl; rw [List.mem_singleton] at hl; rw [hl]; exact HZ.out), B1⟩
        case measure => simp [intOf]; omega
      | true =>
        have HZ := Lib.hid hz
        rw [hz] at HG
        clear hz
        go_wp2_with fail
        refine HG.out.mono ?_
        rintro e w1 ⟨rfl, hb1⟩
        have B1 := Lib.hid (HB.out.trans (hb1.mono HB.out.size))
        clear hb1
        go_wp2
        go_ret
        exact ⟨⟨k, rfl, FoundI.yes HM.out HZ.out, by omega⟩, B1.out⟩
    · have HA : Hid (ls.any invB = false) := by
        have h := HP.out
        rw [List.take_of_length_le (by omega)] at h
        exact Lib.hid (List.any_eq_false.2 fun l hl => by rw [h l hl]; simp)
      go_wp2
      go_ret
      exact ⟨⟨-1, rfl, FoundI.no HA.out, by decide⟩, HB.out⟩
set_option maxHeartbeats 2000000 in
theorem invAny_any (CF : Hid (∀ (l : List Int) (sv : Value) (v : World), l.length ≤ 1000000 → Ints v.heap.size v sv l → Calls Try.prog 42 #[sv] v fun e w' => e = .returned (.bool (invB l)) ∧ Below v.heap.size v w')) (ls : List (List Int)) (hn : ls.length ≤ 1000000) (hl : tot ls ≤ 1000000) (sv : Value) (w : World) (hI : IntsL w.heap.size w sv ls) :
    Calls Try.prog 33 #[sv, .func (.func 42) #[] #[]] w fun e w' => e = .returned (.bool (ls.any invB)) ∧ Below w.heap.size w w' := by
  have HM := Lib.hid (invIndex_any CF ls hn hl sv w hI)
  obtain ⟨a, ca, rfl, _⟩ := hI
  clear CF
  go_enter Try.func33, Try.ntmps33
  go_wp2_with fail
  refine HM.out.mono ?_
  rintro e w4 ⟨⟨k, rfl, hk, hk1⟩, hb⟩
  have HK := Lib.hid hk
  have HB := Lib.hid hb
  clear hk hb
  go_wp2
  go_ret
  exact ⟨ret_bool (Bool.eq_iff_iff.2 (by rw [decide_eq_true_iff]; exact HK.out)), HB.out⟩
set_option maxHeartbeats 2000000 in
set_option maxRecDepth 100000 in
theorem ordIndex_any (CF : Hid (∀ (l : List Int) (sv : Value) (v : World), l.length ≤ 1000000 → Ints v.heap.size v sv l → Calls Try.prog 34 #[sv] v fun e w' => e = .returned (.bool (invB l)) ∧ Below v.heap.size v w')) (ls : List (List Int)) (hn : ls.length ≤ 1000000) (hl : tot ls ≤ 1000000) (sv : Value) (w : World) (hI : IntsL w.heap.size w sv ls) :
    Calls Try.prog 52 #[sv, .func (.func 34) #[] #[]] w fun e w' => (∃ k : Int, e = .returned (.int .i64 k) ∧ FoundI ls k ∧ -1 ≤ k) ∧ Below w.heap.size w w' := by
  obtain ⟨a, cap, rfl, V, h1, h2⟩ := hI
  have HC := Lib.hid h1
  have CG : Hid (∀ j v, j < ls.length → Below w.heap.size w v → Calls Try.prog 34 #[V j] v fun e w' => e = .returned (.bool (invB (ls[j]?.getD []))) ∧ Below v.heap.size v w') := Lib.hid fun j v hj hb => CF.out _ (V j) v (Nat.le_trans (len_tot hj) hl) ((h2 j hj).onto hb)
  clear h1 h2 CF
  go_enter Try.func52, Try.ntmps52
  go_wp2
  go_loopw [8] (fun vi wr => ∃ k : Nat, k ≤ ls.length ∧ vi = .int .i64 k ∧ Hid (∀ l ∈ ls.take k, invB l = false) ∧ Hid (Below w.heap.size w wr)) (fun vi _ => ls.length - (intOf vi).toNat)
  case atStart => exact ⟨0, Nat.zero_le _, rfl, Lib.hid (by simp), Lib.hid (Below.refl _ _)⟩
  case round =>
    obtain ⟨k, hk, rfl, HP, HB⟩ := hrel
    by_cases hlt : k < ls.length
    · obtain ⟨b, o, rfl, hb, hc⟩ := HC.out (by omega)
      have hcell := (HB.out.cell (p := ⟨b, o + k, none⟩) (by simp; omega)).trans (hc k hlt)
      have hi' : (k : Int) < ls.length := by omega
      have HG := Lib.hid (CG.out k _ hlt HB.out)
      have HM := Lib.hid (at_memL hlt)
      have HT : Hid (ls.take (k + 1) = ls.take k ++ [ls[k]?.getD []]) := Lib.hid (by rw [List.take_add_one, List.getElem?_eq_getElem hlt]; rfl)
      clear hc
      generalize V k = vk at *
      cases hz : invB (ls[k]?.getD []) with
      | false =>
        have HZ := Lib.hid hz
        rw [hz] at HG
        clear hz
        go_wp2_with fail
        refine HG.out.mono ?_
        rintro e w1 ⟨rfl, hb1⟩
        have B1 := Lib.hid (HB.out.trans (hb1.mono HB.out.size))
        clear hb1
        go_wp2
        go_roundw
        case rel => exact ⟨k + 1, by omega, by go_num, Lib.hid (by rw [HT.out]; intro l hl; rcases List.mem_append.1 hl with hl | hl; exact HP.out l hl; rw [List.mem_singleton] at hl; rw [hl]; exact HZ.out), B1⟩
        case measure => simp [intOf]; omega
      | true =>
        have HZ := Lib.hid hz
        rw [hz] at HG
        clear hz
        go_wp2_with fail
        refine HG.out.mono ?_
        rintro e w1 ⟨rfl, hb1⟩
        have B1 := Lib.hid (HB.out.trans (hb1.mono HB.out.size))
        clear hb1
        go_wp2
        go_ret
        exact ⟨⟨k, rfl, FoundI.yes HM.out HZ.out, by omega⟩, B1.out⟩
    · have HA : Hid (ls.any invB = false) := by
        have h := HP.out
        rw [List.take_of_length_le (by omega)] at h
        exact Lib.hid (List.any_eq_false.2 fun l hl => by rw [h l hl]; simp)
      go_wp2
      go_ret
      exact ⟨⟨-1, rfl, FoundI.no HA.out, by decide⟩, HB.out⟩
set_option maxHeartbeats 2000000 in
theorem ordAny_any (CF : Hid (∀ (l : List Int) (sv : Value) (v : World), l.length ≤ 1000000 → Ints v.heap.size v sv l → Calls Try.prog 34 #[sv] v fun e w' => e = .returned (.bool (invB l)) ∧ Below v.heap.size v w')) (ls : List (List Int)) (hn : ls.length ≤ 1000000) (hl : tot ls ≤ 1000000) (sv : Value) (w : World) (hI : IntsL w.heap.size w sv ls) :
    Calls Try.prog 33 #[sv, .func (.func 34) #[] #[]] w fun e w' => e = .returned (.bool (ls.any invB)) ∧ Below w.heap.size w w' := by
  have HM := Lib.hid (ordIndex_any CF ls hn hl sv w hI)
  obtain ⟨a, ca, rfl, _⟩ := hI
  clear CF
  go_enter Try.func33, Try.ntmps33
  go_wp2_with fail
  refine HM.out.mono ?_
  rintro e w4 ⟨⟨k, rfl, hk, hk1⟩, hb⟩
  have HK := Lib.hid hk
  have HB := Lib.hid hb
  clear hk hb
  go_wp2
  go_ret
  exact ⟨ret_bool (Bool.eq_iff_iff.2 (by rw [decide_eq_true_iff]; exact HK.out)), HB.out⟩
set_option maxHeartbeats 2000000 in
theorem gMerge_any (ls : List (List Int)) (hn : ls.length ≤ 1000000) (hl : tot ls ≤ 1000000) (sv : Value) (w : World) (hI : IntsM w.heap.size w sv ls) :
    Calls Try.prog 25 #[sv] w (IntsOut w (mrgO ls)) := by
  have HA := Lib.hid (invAny_any (Lib.hid fun l sv v h1 h2 => gInvalid_any l h1 sv v h2) ls hn hl sv w hI.2)
  cases hq : ls.any invB with
  | false =>
    have hz := any_inv hq
    have HM : Hid (∀ v, Below w.heap.size w v → Calls Try.prog 44 #[sv] v (IntsOut v (mrgO ls))) := Lib.hid fun v hb => by
      rw [mrgO_ok hz]
      exact merged_any _ ls (Nat.le_refl _) hn hl (fun l h => chk_zero.1 (hz l h)) sv v (hI.onto hb)
    rw [hq] at HA
    clear hq hz
    generalize mrgO ls = lr at *
    obtain ⟨⟨a, ca, rfl, _⟩, _⟩ := hI
    go_enter Try.func25, Try.ntmps25
    go_wp2_with fail
    refine HA.out.mono ?_
    rintro e w1 ⟨rfl, hb1⟩
    have B1 := Lib.hid hb1
    clear hb1
    go_wp2_with fail
    refine (HM.out _ B1.out).mono ?_
    rintro e w2 ⟨v2, rfl, h2, hb2⟩
    have B2 := Lib.hid (B1.out.trans (hb2.mono B1.out.size))
    have I2 := Lib.hid h2
    clear hb2 h2
    go_wp2
    go_ret
    exact ⟨_, rfl, I2.out, B2.out⟩
  | true =>
    have HE : Hid (mrgO ls = []) := by
      obtain ⟨l, h1, h2⟩ := List.any_eq_true.1 hq
      exact Lib.hid (mrgO_bad h1 (inv_yes h2))
    rw [hq] at HA
    clear hq
    obtain ⟨⟨a, ca, rfl, _⟩, _⟩ := hI
    go_enter Try.func25, Try.ntmps25
    go_wp2_with fail
    refine HA.out.mono ?_
    rintro e w1 ⟨rfl, hb1⟩
    have B1 := Lib.hid hb1
    clear hb1
    go_wp2
    go_ret
    rw [HE.out]
    exact ⟨_, rfl, Ints.nil_ _ _, B1.out⟩
set_option maxHeartbeats 4000000 in
set_option maxRecDepth 100000 in
theorem gOr_any (xs ys : List Int) (hx : xs.length ≤ 400000) (hy : ys.length ≤ 400000) (sx sy : Value) (w : World) (hX : Ints w.heap.size w sx xs) (hY : Ints w.heap.size w sy ys) :
    Calls Try.prog 19 #[sx, sy] w (IntsOut w (orO xs ys)) := by
  have B0 : Hid (Below w.heap.size w (w.alloc (.cells #[sx, sy] 22))) := (Below.refl _ _).alloc (Nat.le_refl _) _
  have hL : IntsM (w.alloc (.cells #[sx, sy] 22)).heap.size (w.alloc (.cells #[sx, sy] 22)) (.slice (some ⟨w.heap.size, 0, none⟩) 2 2) [xs, ys] := by
    refine ⟨⟨_, _, rfl, Nat.le_refl _⟩, _, 2, rfl, fun j => if j = 0 then sx else sy, fun _ => ⟨_, 0, rfl, by simp, fun j hj => ?_⟩, fun j hj => ?_⟩
    · match j, hj with
      | 0, _ => go_simp
      | 1, _ => go_simp
    · match j, hj with
      | 0, _ => exact (hX.below B0.out).mono (by simp)
      | 1, _ => exact (hY.below B0.out).mono (by simp)
  have HM := Lib.hid (gMerge_any [xs, ys] (by simp) (by simp [tot]; omega) _ _ hL)
  obtain ⟨a, ca, rfl, _⟩ := hX
  obtain ⟨b, cb, rfl, _⟩ := hY
  clear hL
  go_enter Try.func19, Try.ntmps19
  go_wp2_with (go_at_call 25; (with_reducible refine HM.out.mono ?_); rintro e w4 ⟨v4, rfl, ho4, hb4⟩; have O4 := Lib.hid ho4; have B4 := Lib.hid (B0.out.trans (hb4.mono (by simp))); clear ho4 hb4)
  go_ret
  exact ⟨_, rfl, O4.out, B4.out⟩
end Go.Proofs.Ytejnmjaclhmelaa.Po
