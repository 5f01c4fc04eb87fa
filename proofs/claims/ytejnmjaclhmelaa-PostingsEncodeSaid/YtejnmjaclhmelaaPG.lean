/- Layer 8: the reference's Merge, Or. -/
import Derived.Test.YtejnmjaclhmelaaPF
set_option linter.unusedVariables false
set_option linter.unusedSimpArgs false
namespace Go.Proofs.Ytejnmjaclhmelaa.Po
open Go.RowKit
/-- A list of lists that lies below B. -/
def IntsL (B : Nat) (w : World) (v : Value) (ls : List (List Int)) : Prop :=
  ∃ a cap, v = .slice a ls.length cap ∧ ∃ V : Nat → Value, (0 < ls.length → ∃ b off, a = some ⟨b, off, none⟩ ∧ b < B ∧ ∀ j, j < ls.length → w.cell? ⟨b, off + j, none⟩ = some (V j)) ∧ ∀ j, j < ls.length → Ints B w (V j) (ls[j]?.getD [])
theorem IntsL.below {B : Nat} {w w' : World} {v : Value} {ls : List (List Int)} (h : IntsL B w v ls) (hb : Below B w w') : IntsL B w' v ls := by
  obtain ⟨a, cap, e, V, h1, h2⟩ := h
  refine ⟨a, cap, e, V, fun hp => ?_, fun j hj => (h2 j hj).below hb⟩
  obtain ⟨b, off, e1, h3, h4⟩ := h1 hp
  exact ⟨b, off, e1, h3, fun j hj => (hb.cell (p := ⟨b, off + j, none⟩) h3).trans (h4 j hj)⟩
theorem IntsL.mono {B C : Nat} {w : World} {v : Value} {ls : List (List Int)} (h : IntsL B w v ls) (hn : B ≤ C) : IntsL C w v ls := by
  obtain ⟨a, cap, e, V, h1, h2⟩ := h
  refine ⟨a, cap, e, V, fun hp => ?_, fun j hj => (h2 j hj).mono hn⟩
  obtain ⟨b, off, e1, h3, h4⟩ := h1 hp
  exact ⟨b, off, e1, by omega, h4⟩
def tot (ls : List (List Int)) : Nat := (ls.map List.length).sum
theorem tot_cons (l : List Int) (ls : List (List Int)) : tot (l :: ls) = l.length + tot ls := by unfold tot; rw [List.map_cons, List.sum_cons]
theorem insAll_len : ∀ (l o : List Int), (insAll o l).length ≤ o.length + l.length
  | [], o => Nat.le_refl _
  | x :: l, o => by
    have h := insAll_len l (insP o x)
    have h2 := insP_len o x
    unfold insAll at h ⊢
    rw [List.foldl_cons, List.length_cons]
    omega
theorem mrg_len : ∀ (ls : List (List Int)) (o : List Int), (ls.foldl insAll o).length ≤ o.length + tot ls
  | [], o => by simp [tot]
  | l :: ls, o => by
    have h := mrg_len ls (insAll o l)
    have h2 := insAll_len l o
    rw [List.foldl_cons, tot_cons]
    omega
theorem tot_at : ∀ (ls : List (List Int)) (i : Nat), i < ls.length → tot (ls.take i) + (ls[i]?.getD []).length ≤ tot ls
  | [], i, h => by simp at h
  | l :: ls, 0, _ => by rw [tot_cons]; simp [tot]
  | l :: ls, i + 1, h => by
    have := tot_at ls i (by simpa using h)
    rw [List.take_succ_cons, tot_cons, tot_cons, List.getElem?_cons_succ]
    omega
/-- Behind i lists and k numbers of the next. -/
def mrgAt (ls : List (List Int)) (i k : Nat) : List Int := insAll ((ls.take i).foldl insAll []) ((ls[i]?.getD []).take k)
theorem mrgAt_zero (ls : List (List Int)) : mrgAt ls 0 0 = [] := rfl
theorem mrgAt_len {ls : List (List Int)} {i k : Nat} (h : i < ls.length) : (mrgAt ls i k).length ≤ tot ls := by
  have h1 := insAll_len ((ls[i]?.getD []).take k) ((ls.take i).foldl insAll [])
  have h2 := mrg_len (ls.take i) []
  have h3 := tot_at ls i h
  have h4 : ((ls[i]?.getD []).take k).length ≤ (ls[i]?.getD []).length := List.length_take_le' ..
  simp only [List.length_nil] at h2
  unfold mrgAt
  omega
theorem mrgAt_step {ls : List (List Int)} {i k : Nat} (h : k < (ls[i]?.getD []).length) : mrgAt ls i (k + 1) = insP (mrgAt ls i k) ((ls[i]?.getD [])[k]?.getD 0) := by
  unfold mrgAt
  rw [take_snoc _ k h]
  unfold insAll
  rw [List.foldl_append]
  rfl
theorem mrgAt_next {ls : List (List Int)} {i k : Nat} (h : i < ls.length) (hk : ¬ k < (ls[i]?.getD []).length) : mrgAt ls i k = mrgAt ls (i + 1) 0 := by
  have e : ls.take (i + 1) = ls.take i ++ [ls[i]?.getD []] := by rw [List.take_add_one, List.getElem?_eq_getElem h]; rfl
  have e2 : (ls[i]?.getD []).take k = ls[i]?.getD [] := List.take_of_length_le (by omega)
  unfold mrgAt
  rw [e2, e, List.foldl_append]
  rfl
theorem mrgAt_done {ls : List (List Int)} {i : Nat} (h : ¬ i < ls.length) : mrgAt ls i 0 = mrgL ls := by
  unfold mrgAt mrgL
  rw [List.take_of_length_le (by omega), List.take_zero]
  rfl
theorem at_memL {ls : List (List Int)} {i : Nat} (h : i < ls.length) : ls[i]?.getD [] ∈ ls := by rw [List.getElem?_eq_getElem h]; exact List.getElem_mem h
theorem mrgAt_val {ls : List (List Int)} (hv : ∀ l ∈ ls, chk l = 0) {i k : Nat} (h : i < ls.length) : chk (mrgAt ls i k) = 0 := by
  refine chk_zero.2 (Val.insAll_ (mrg_val Val.nil fun l hl => chk_zero.1 (hv l (List.mem_of_mem_take hl))) fun x hx => ?_)
  exact (chk_zero.1 (hv _ (at_memL h))).1 x (List.mem_of_mem_take hx)
def mrgO (ls : List (List Int)) : List Int := if ∀ l ∈ ls, chk l = 0 then mrgL ls else []
theorem mrgO_ok {ls : List (List Int)} (h : ∀ l ∈ ls, chk l = 0) : mrgO ls = mrgL ls := if_pos h
theorem mrgO_bad {ls : List (List Int)} {l : List Int} (h : l ∈ ls) (h2 : chk l ≠ 0) : mrgO ls = [] := if_neg fun e => h2 (e l h)
def orO (a b : List Int) : List Int := mrgO [a, b]
theorem take_all_succ {ls : List (List Int)} {i : Nat} (h : i < ls.length) (h1 : ∀ l ∈ ls.take i, chk l = 0) (h2 : chk (ls[i]?.getD []) = 0) : ∀ l ∈ ls.take (i + 1), chk l = 0 := by
  have e : ls.take (i + 1) = ls.take i ++ [ls[i]?.getD []] := by rw [List.take_add_one, List.getElem?_eq_getElem h]; rfl
  rw [e]
  intro l hl
  rcases List.mem_append.1 hl with hl | hl
  · exact h1 l hl
  · rw [List.mem_singleton] at hl
    rw [hl]
    exact h2
theorem len_tot {ls : List (List Int)} {i : Nat} (h : i < ls.length) : (ls[i]?.getD []).length ≤ tot ls := by
  have := tot_at ls i h
  omega
set_option maxHeartbeats 4000000 in
set_option maxRecDepth 100000 in
theorem pMerge_any (ls : List (List Int)) (hn : ls.length ≤ 1000000) (hl : tot ls ≤ 1000000) (sv : Value) (w : World) (hI : IntsL w.heap.size w sv ls) :
    Calls Try.prog 26 #[sv] w (IntsOut w (mrgO ls)) := by
  obtain ⟨a, cap, rfl, V, h1, h2⟩ := hI
  have HC := Lib.hid h1
  have HV := Lib.hid h2
  clear h1 h2
  have CK : Hid (∀ j v, j < ls.length → Below w.heap.size w v → Calls Try.prog 15 #[V j] v fun e w' => e = .returned (.int .i64 (chk (ls[j]?.getD []))) ∧ Below v.heap.size v w') := Lib.hid fun j v hj hb => pCheck_any _ (Nat.le_trans (len_tot hj) hl) (V j) v ((HV.out j hj).at_below hb hb.size)
  have B0 : Hid (Below w.heap.size w (w.alloc (.cells #[] 3))) := (Below.refl _ _).alloc (Nat.le_refl _) _
  have E0 : Hid (Ints (w.heap.size + 1) (w.alloc (.cells #[] 3)) (.slice (some ⟨w.heap.size, 0, none⟩) 0 0) []) := Lib.hid (Ints.empty (Nat.le_refl _) (Nat.le_refl _))
  go_enter Try.func26, Try.ntmps26
  go_wp2
  go_loopw [4] (fun vi wr => ∃ k : Nat, k ≤ ls.length ∧ vi = .int .i64 k ∧ Hid (∀ l ∈ ls.take k, chk l = 0) ∧ Hid (Below w.heap.size w wr) ∧ Hid (Ints wr.heap.size wr (.slice (some ⟨w.heap.size, 0, none⟩) 0 0) []))
    (fun vi _ => ls.length - (intOf vi).toNat)
  case atStart => exact ⟨0, Nat.zero_le _, rfl, Lib.hid (by simp), B0, Lib.hid (E0.out.mono (by simp))⟩
  case round =>
    clear B0 E0
    obtain ⟨k, hk, rfl, HP, HB, HE0⟩ := hrel
    by_cases hlt : k < ls.length
    · obtain ⟨b, o, rfl, hb, hc⟩ := HC.out (by omega)
      have hcell := (HB.out.cell (p := ⟨b, o + k, none⟩) (by simp; omega)).trans (hc k hlt)
      have hi' : (k : Int) < ls.length := by omega
      have HK := Lib.hid (CK.out k _ hlt HB.out)
      have HM := Lib.hid (at_memL hlt)
      have HS := Lib.hid (take_all_succ hlt HP.out)
      clear hc
      by_cases hz : chk (ls[k]?.getD []) = 0
      · have HS2 := Lib.hid (HS.out hz)
        rw [hz] at HK
        clear hz HS
        generalize V k = vk at *
        go_wp2_with (go_at_call 15; with_reducible refine HK.out.mono ?_; rintro e w1 ⟨rfl, hb1⟩; have B1 := Lib.hid (HB.out.trans (hb1.mono HB.out.size)); have E1 := Lib.hid ((HE0.out.below hb1).mono hb1.size); clear hb1)
        go_roundw
        case rel => exact ⟨k + 1, by omega, by go_num, HS2, B1, E1⟩
        case measure => simp [intOf]; omega
      · have HE := Lib.hid (mrgO_bad HM.out hz)
        have hne : (chk (ls[k]?.getD []) != 0) = true := by rw [bne_iff_ne]; exact hz
        clear hz HS
        generalize chk (ls[k]?.getD []) = c at *
        generalize V k = vk at *
        go_wp2_with (go_at_call 15; with_reducible refine HK.out.mono ?_; rintro e w1 ⟨rfl, hb1⟩; have B1 := Lib.hid (HB.out.trans (hb1.mono HB.out.size)); clear hb1)
        go_ret
        rw [HE.out]
        exact ⟨_, rfl, (Ints.empty (Nat.le_refl _) (Nat.le_refl _)).mono (by simp), B1.out.alloc B1.out.size _⟩
    · have HA : Hid (∀ l ∈ ls, chk l = 0) := by
        have h := HP.out
        rw [List.take_of_length_le (by omega)] at h
        exact h
      have HE := Lib.hid (mrgO_ok HA.out)
      clear HP CK
      have CI : Hid (∀ i k v vo x, i < ls.length → Ints v.heap.size v vo (mrgAt ls i k) → Calls Try.prog 45 #[vo, .int .i64 x] v (IntsOut v (insP (mrgAt ls i k) x))) := Lib.hid fun i k v vo x hi hI => pInsert_any _ (Nat.le_trans (mrgAt_len hi) hl) (mrgAt_val HA.out hi) vo x v hI
      go_wp2
      go_loopw [3, 5] (fun vo vi wr2 => ∃ i : Nat, i ≤ ls.length ∧ vi = .int .i64 i ∧ Hid (Ints wr2.heap.size wr2 vo (mrgAt ls i 0)) ∧ Hid (Below w.heap.size w wr2))
        (fun _ vi _ => ls.length - (intOf vi).toNat)
      case atStart => exact ⟨0, Nat.zero_le _, rfl, HE0, HB⟩
      case round =>
        clear HE0 HB
        obtain ⟨i, hi, rfl, HO, HB⟩ := hrel
        by_cases hlt2 : i < ls.length
        · obtain ⟨b, o, rfl, hb, hc⟩ := HC.out (by omega)
          have hcw := hc i hlt2
          have hi' : (i : Int) < ls.length := by omega
          have HVi := Lib.hid (HV.out i hlt2)
          have HLn := len_tot hlt2
          clear hc
          go_wp2
          go_loopw [3, 6] (fun vo vk wr3 => ∃ k : Nat, k ≤ (ls[i]?.getD []).length ∧ vk = .int .i64 k ∧ Hid (Ints wr3.heap.size wr3 vo (mrgAt ls i k)) ∧ Hid (Below w.heap.size w wr3))
            (fun _ vk _ => (ls[i]?.getD []).length - (intOf vk).toNat)
          case atStart => exact ⟨0, Nat.zero_le _, rfl, HO, HB⟩
          case round =>
            clear HO HB
            obtain ⟨k, hk, rfl, HO, HB⟩ := hrel
            have hcell := (HB.out.cell (p := ⟨b, o + i, none⟩) (by simp; omega)).trans hcw
            have hIi := (HVi.out.below HB.out).at
            obtain ⟨a2, cap2, ev, hcx⟩ := hIi
            rw [ev] at hcell
            have HX := Lib.hid hcx
            clear hcx
            have HST := Lib.hid (@mrgAt_step ls i k)
            have HNX := Lib.hid (@mrgAt_next ls i k hlt2)
            have HI := Lib.hid (fun v vo x => CI.out i k v vo x hlt2)
            generalize ls[i]?.getD [] = l at *
            by_cases hlt3 : k < l.length
            · obtain ⟨b2, o2, rfl, hb2, hc2⟩ := HX.out (List.ne_nil_of_length_pos (by omega))
              have hcell2 := hc2 k hlt3
              have hi2' : (k : Int) < l.length := by omega
              have HS2 := Lib.hid (HST.out hlt3)
              clear hc2 HST HNX
              generalize l[k]?.getD 0 = x at *
              go_wp2_with (go_at_call 45; (with_reducible refine (HI.out _ _ x HO.out).mono ?_); rintro e w4 ⟨v4, rfl, ho4, hb4⟩; have O4 := Lib.hid ho4; have B4 := Lib.hid (HB.out.trans (hb4.mono HB.out.size)); clear ho4 hb4)
              go_roundw
              case rel => exact ⟨k + 1, by omega, by go_num, Lib.hid (by rw [HS2.out]; exact O4.out), B4⟩
              case measure => simp [intOf]; omega
            · have HS2 := Lib.hid (HNX.out hlt3)
              clear HST HNX HX HI
              go_wp2
              go_roundw
              case rel => exact ⟨i + 1, by omega, by go_num, Lib.hid (by rw [← HS2.out]; exact HO.out), HB⟩
              case measure => simp [intOf]; omega
        · have HD := Lib.hid (mrgAt_done hlt2)
          clear CI HV HC
          go_wp2
          go_ret
          rw [HE.out, ← HD.out]
          exact ⟨_, rfl, HO.out, HB.out⟩
set_option maxHeartbeats 4000000 in
set_option maxRecDepth 100000 in
theorem pOr_any (xs ys : List Int) (hx : xs.length ≤ 400000) (hy : ys.length ≤ 400000) (sx sy : Value) (w : World) (hX : Ints w.heap.size w sx xs) (hY : Ints w.heap.size w sy ys) :
    Calls Try.prog 20 #[sx, sy] w (IntsOut w (orO xs ys)) := by
  have B0 : Hid (Below w.heap.size w (w.alloc (.cells #[sx, sy] 22))) := (Below.refl _ _).alloc (Nat.le_refl _) _
  have hL : IntsL (w.alloc (.cells #[sx, sy] 22)).heap.size (w.alloc (.cells #[sx, sy] 22)) (.slice (some ⟨w.heap.size, 0, none⟩) 2 2) [xs, ys] := by
    refine ⟨_, 2, rfl, fun j => if j = 0 then sx else sy, fun _ => ⟨_, 0, rfl, by simp, fun j hj => ?_⟩, fun j hj => ?_⟩
    · match j, hj with
      | 0, _ => go_simp
      | 1, _ => go_simp
    · match j, hj with
      | 0, _ => exact (hX.below B0.out).mono (by simp)
      | 1, _ => exact (hY.below B0.out).mono (by simp)
  have HM := Lib.hid (pMerge_any [xs, ys] (by simp) (by simp [tot]; omega) _ _ hL)
  obtain ⟨a, ca, rfl, _⟩ := hX
  obtain ⟨b, cb, rfl, _⟩ := hY
  clear hL
  go_enter Try.func20, Try.ntmps20
  go_wp2_with (go_at_call 26; (with_reducible refine HM.out.mono ?_); rintro e w4 ⟨v4, rfl, ho4, hb4⟩; have O4 := Lib.hid ho4; have B4 := Lib.hid (B0.out.trans (hb4.mono (by simp))); clear ho4 hb4)
  go_ret
  exact ⟨_, rfl, O4.out, B4.out⟩
end Go.Proofs.Ytejnmjaclhmelaa.Po
