/- Layer 8: the reference's Same, Has, Seek. -/
import Derived.Test.YtejnmjaclhmelaaPC
import Derived.Test.YtejnmjaclhmelaaSame
set_option linter.unusedVariables false
set_option linter.unusedSimpArgs false
namespace Go.Proofs.Ytejnmjaclhmelaa
open Go.RowKit
namespace Po
def hasB (x : Int) (l : List Int) : Bool := decide (x ∈ l)
theorem hasB_yes {x : Int} {l : List Int} (h : x ∈ l) : hasB x l = true := decide_eq_true h
theorem hasB_no {x : Int} {l : List Int} (h : x ∉ l) : hasB x l = false := decide_eq_false h
theorem at_mem {l : List Int} {k : Nat} (h : k < l.length) : l[k]?.getD 0 ∈ l := by rw [List.getElem?_eq_getElem h]; exact List.getElem_mem h
theorem not_take_succ {l : List Int} {k : Nat} {x : Int} (h : k < l.length) (h1 : x ∉ l.take k) (h2 : l[k]?.getD 0 ≠ x) : x ∉ l.take (k + 1) := by
  rw [take_snoc l k h]
  intro hm
  rcases List.mem_append.1 hm with hm | hm
  · exact h1 hm
  · simp at hm; exact h2 (by rw [hm])
def seekO (l : List Int) (x : Int) : Nat := if chk l = 0 then seekN l x else 0
theorem seekO_bad {l : List Int} {x : Int} (h : chk l ≠ 0) : seekO l x = 0 := if_neg h
theorem seekO_ok {l : List Int} {x : Int} (h : chk l = 0) : seekO l x = seekN l x := if_pos h
theorem seekN_go {l : List Int} {x : Int} {k : Nat} (hk : k < l.length) (h : k ≤ seekN l x) (h2 : l[k]?.getD 0 < x) : k + 1 ≤ seekN l x := by
  rw [List.getElem?_eq_getElem hk] at h2
  exact (seekN_step hk h).2 h2
theorem seekN_stop {l : List Int} {x : Int} {k : Nat} (hk : k < l.length) (h : k ≤ seekN l x) (h2 : ¬ l[k]?.getD 0 < x) : seekN l x = k := by
  rw [List.getElem?_eq_getElem hk] at h2
  rcases Nat.lt_or_ge k (seekN l x) with h3 | h3
  · exact absurd ((seekN_step hk h).1 h3) h2
  · omega
theorem seekN_last {l : List Int} {x : Int} {k : Nat} (hk : ¬ k < l.length) (h : k ≤ seekN l x) : seekN l x = k := by
  have := seekN_le l x
  omega
end Po

set_option maxHeartbeats 1000000 in
set_option maxRecDepth 100000 in
theorem pSame_any (xs ys : List Int) (hx : xs.length ≤ 1000000) (sx sy : Value) (w : World) (hX : IntsAt w.heap.size w sx xs) (hY : IntsAt w.heap.size w sy ys) :
    Calls Try.prog 16 #[sx, sy] w fun e w' => e = .returned (.bool (sameB xs ys)) ∧ Below w.heap.size w w' := by
  obtain ⟨a, cap, rfl, hcx⟩ := hX
  obtain ⟨b, cap2, rfl, hcy⟩ := hY
  have HX := Lib.hid hcx
  have HY := Lib.hid hcy
  clear hcx hcy
  by_cases hlen : xs.length = ys.length
  · have hne : ((xs.length : Int) != ys.length) = false := by rw [hlen]; simp
    have HL := Lib.hid hlen
    have hle1 : xs.length ≤ ys.length := by omega
    have hle2 : ys.length ≤ xs.length := by omega
    clear hlen
    go_enter Try.func16, Try.ntmps16
    go_wp2
    go_loopw [5] (fun vi wr => ∃ k : Nat, k ≤ xs.length ∧ vi = .int .i64 k ∧ Hid (∀ j, j < k → xs[j]?.getD 0 = ys[j]?.getD 0) ∧ Hid (Below w.heap.size w wr))
      (fun vi _ => xs.length - (intOf vi).toNat)
    case atStart => exact ⟨0, Nat.zero_le _, rfl, Lib.hid (by omega), Lib.hid (Below.refl _ _)⟩
    case round =>
      obtain ⟨k, hk, rfl, HP, HB⟩ := hrel
      by_cases hlt : k < xs.length
      · obtain ⟨b1, o1, rfl, hb1, hc1⟩ := HX.out (List.ne_nil_of_length_pos (by omega))
        obtain ⟨b2, o2, rfl, hb2, hc2⟩ := HY.out (List.ne_nil_of_length_pos (by omega))
        have hcell1 := (HB.out.cell (p := ⟨b1, o1 + k, none⟩) (by simp; omega)).trans (hc1 k hlt)
        have hcell2 := (HB.out.cell (p := ⟨b2, o2 + k, none⟩) (by simp; omega)).trans (hc2 k (by omega))
        have HE := fun h => @sameB_at xs ys k h
        have HQ : ∀ j, j < k + 1 → xs[j]?.getD 0 = ys[j]?.getD 0 ∨ j = k := fun j hj => if h : j < k then .inl (HP.out j h) else .inr (by omega)
        generalize hxx : xs[k]?.getD 0 = x at *
        generalize hyy : ys[k]?.getD 0 = y at *
        have HE2 := Lib.hid HE
        have HQ2 := Lib.hid HQ
        have Hx := Lib.hid hxx
        have Hy := Lib.hid hyy
        have hi1 : (k : Int) < xs.length := by omega
        have hi2 : (k : Int) < ys.length := by omega
        clear HE HQ hc1 hc2 hxx hyy HX HY HL
        by_cases hxy : x = y
        · have hne2 : (x != y) = false := by rw [hxy]; simp
          have Hxy := Lib.hid hxy
          clear hxy
          go_wp2
          go_quiet (fail)
          go_wp2
          go_roundw
          case rel =>
            refine ⟨k + 1, by omega, by go_num, Lib.hid fun j hj => ?_, below_drewN HB.out _⟩
            rcases HQ2.out j hj with h | rfl
            · exact h
            · rw [Hx.out, Hy.out, Hxy.out]
          case measure => simp [intOf]; omega
        · have hne2 : (x != y) = true := by rw [bne_iff_ne]; exact hxy
          have HE3 := Lib.hid (HE2.out hxy)
          clear hxy
          go_wp2
          go_quiet (fail)
          go_wp2
          go_ret
          exact ⟨by rw [HE3.out]; rfl, below_drewN HB.out _⟩
      · have HE3 := Lib.hid (sameB_all HL.out (fun j hj => HP.out j (by omega)))
        clear HX HY HL HP
        go_wp2
        go_ret
        exact ⟨by rw [HE3.out]; rfl, HB.out⟩
  · have hne : ((xs.length : Int) != ys.length) = true := by rw [bne_iff_ne]; omega
    have HE3 := Lib.hid (sameB_len hlen)
    clear hlen
    go_enter Try.func16, Try.ntmps16
    go_wp2
    go_ret
    exact ⟨by rw [HE3.out]; rfl, Below.refl _ _⟩

set_option maxHeartbeats 1000000 in
set_option maxRecDepth 100000 in
theorem pHas_any (zs : List Int) (hl : zs.length ≤ 1000000) (sv : Value) (x : Int) (w : World) (hI : IntsAt w.heap.size w sv zs) :
    Calls Try.prog 40 #[sv, .int .i64 x] w fun e w' => e = .returned (.bool (Po.hasB x zs)) ∧ Below w.heap.size w w' := by
  obtain ⟨a, cap, rfl, hcx⟩ := hI
  have HX := Lib.hid hcx
  clear hcx
  go_enter Try.func40, Try.ntmps40
  go_wp2
  go_loopw [5] (fun vi wr => ∃ k : Nat, k ≤ zs.length ∧ vi = .int .i64 k ∧ Hid (x ∉ zs.take k) ∧ Hid (Below w.heap.size w wr))
    (fun vi _ => zs.length - (intOf vi).toNat)
  case atStart => exact ⟨0, Nat.zero_le _, rfl, Lib.hid (by simp), Lib.hid (Below.refl _ _)⟩
  case round =>
    obtain ⟨k, hk, rfl, HP, HB⟩ := hrel
    by_cases hlt : k < zs.length
    · obtain ⟨b, o, rfl, hb, hc⟩ := HX.out (List.ne_nil_of_length_pos (by omega))
      have hcell := (HB.out.cell (p := ⟨b, o + k, none⟩) (by simp; omega)).trans (hc k hlt)
      have hi : (k : Int) < zs.length := by omega
      have HM := Lib.hid (Po.at_mem hlt)
      have HN := Lib.hid (Po.not_take_succ hlt HP.out)
      clear hc HX
      generalize zs[k]?.getD 0 = y at *
      by_cases hxy : y = x
      · have hq : (y == x) = true := by rw [hxy]; simp
        have HE : Hid (Po.hasB x zs = true) := Po.hasB_yes (hxy ▸ HM.out)
        clear hxy HN HM
        go_wp2
        go_ret
        rw [HE.out]
        exact ⟨rfl, HB.out⟩
      · have hq : (y == x) = false := by rw [beq_eq_false_iff_ne]; exact hxy
        have HE := Lib.hid (HN.out hxy)
        clear hxy HN HM
        go_wp2
        go_roundw
        case rel => exact ⟨k + 1, by omega, by go_num, HE, HB⟩
        case measure => simp [intOf]; omega
    · have HE : Hid (Po.hasB x zs = false) := by
        have h := HP.out
        rw [List.take_of_length_le (by omega)] at h
        exact Po.hasB_no h
      go_wp2
      go_ret
      rw [HE.out]
      exact ⟨rfl, HB.out⟩

set_option maxHeartbeats 1000000 in
set_option maxRecDepth 100000 in
theorem pSeek_any (zs : List Int) (hl : zs.length ≤ 1000000) (sv : Value) (x : Int) (w : World) (hI : IntsAt w.heap.size w sv zs) :
    Calls Try.prog 24 #[sv, .int .i64 x] w fun e w' => e = .returned (.int .i64 (Po.seekO zs x : Nat)) ∧ Below w.heap.size w w' := by
  have HC := Lib.hid (pCheck_any zs hl sv w hI)
  obtain ⟨a, cap, rfl, hcx⟩ := hI
  have HX := Lib.hid hcx
  clear hcx
  by_cases h0 : Po.chk zs = 0
  · have HS := Lib.hid (Po.seekO_ok (x := x) h0)
    rw [h0] at HC
    clear h0
    go_enter Try.func24, Try.ntmps24
    go_wp2_with fail
    refine HC.out.mono ?_
    rintro e w1 ⟨rfl, hb1⟩
    have HB1 := Lib.hid hb1
    clear hb1 HC
    go_wp2
    go_loopw [5] (fun vi wr => ∃ k : Nat, k ≤ zs.length ∧ vi = .int .i64 k ∧ Hid (k ≤ Po.seekN zs x) ∧ Hid (Below w.heap.size w wr))
      (fun vi _ => zs.length - (intOf vi).toNat)
    case atStart => exact ⟨0, Nat.zero_le _, rfl, Lib.hid (Nat.zero_le _), HB1⟩
    case round =>
      clear HB1
      obtain ⟨k, hk, rfl, HP, HB⟩ := hrel
      by_cases hlt : k < zs.length
      · obtain ⟨b, o, rfl, hb, hc⟩ := HX.out (List.ne_nil_of_length_pos (by omega))
        have hcell := (HB.out.cell (p := ⟨b, o + k, none⟩) (by simp; omega)).trans (hc k hlt)
        have hi : (k : Int) < zs.length := by omega
        have HG := Lib.hid (@Po.seekN_go zs x k hlt HP.out)
        have HT := Lib.hid (@Po.seekN_stop zs x k hlt HP.out)
        clear hc HX
        generalize zs[k]?.getD 0 = y at *
        by_cases hxy : y < x
        · have HE := Lib.hid (HG.out hxy)
          go_wp2
          go_roundw
          case rel => exact ⟨k + 1, by omega, by go_num, HE, HB⟩
          case measure => simp [intOf]; omega
        · have HE := Lib.hid (HT.out hxy)
          go_wp2
          go_ret
          rw [HS.out, HE.out]
          exact ⟨rfl, HB.out⟩
      · have HE := Lib.hid (Po.seekN_last hlt HP.out)
        go_wp2
        go_ret
        rw [HS.out, HE.out]
        exact ⟨rfl, HB.out⟩
  · have HS := Lib.hid (Po.seekO_bad (x := x) h0)
    have hne : (Po.chk zs != 0) = true := by rw [bne_iff_ne]; exact h0
    generalize Po.chk zs = c at *
    go_enter Try.func24, Try.ntmps24
    go_wp2_with fail
    refine HC.out.mono ?_
    rintro e w1 ⟨rfl, hb1⟩
    have HB1 := Lib.hid hb1
    clear hb1 HC
    go_wp2
    go_ret
    rw [HS.out]
    exact ⟨rfl, HB1.out⟩
end Go.Proofs.Ytejnmjaclhmelaa
