/- Layer 9: the program's differences and sums. -/
import Derived.Deep.RegionLaw
import Derived.Test.YtmeekciclfgkkaaDcB
set_option linter.unusedVariables false
set_option linter.unusedSimpArgs false
namespace Go.Proofs.Ytmeekciclfgkkaa.Dc
open Go.RowKit
theorem diffs_length (l : List Int) : (diffs l).length = l.length - 1 := by
  cases l with
  | nil => rfl
  | cons x l => rw [diffs_len, List.length_cons, Nat.add_sub_cancel]
theorem take_next {l : List Int} {m : Nat} {d : Int} (h : m < l.length) (hd : l[m]?.getD 0 = d) : ic (l.take (m + 1)) = ic (l.take m) ++ [.int .i64 d] := by
  subst hd
  unfold ic
  rw [List.take_add_one, List.getElem?_eq_getElem h, List.map_append]
  rfl
set_option maxHeartbeats 4000000 in
set_option maxRecDepth 100000 in
theorem diffs_own (zs : List Int) (hl : zs.length ≤ 1000000) (hz : within 2305843009213693952 zs) (sv : Value) (w : World) (hI : IntsAt w.heap.size w sv zs) :
    Calls Try.prog 37 #[sv] w fun e w' => ∃ v, e = .returned v ∧ w'.ownsRow w.heap.size 3 1 v (diffs zs).length (ic (diffs zs)) ∧ Below w.heap.size w w' := by
  obtain ⟨i0, hi, hz0, hz1, hz2⟩ := info_parts infoI
  obtain ⟨a, cap, rfl, hcx⟩ := hI
  have HX := Lib.hid hcx
  have HW := Lib.hid hz
  have HL := Lib.hid (diffs_length zs)
  have HD := Lib.hid fun m h => diffs_at zs m h
  clear hcx hz
  generalize diffs zs = ds at *
  go_enter Try.func37, Try.ntmps37
  go_wp2
  go_loopw [3, 4] (fun vd vi wr => ∃ (k m : Nat), k = m + 1 ∧ m ≤ ds.length ∧ vi = .int .i64 k ∧ Hid (wr.ownsRow w.heap.size 3 1 vd m (ic (ds.take m))) ∧ Hid (Below w.heap.size w wr))
    (fun _ vi _ => zs.length - (intOf vi).toNat)
  case atStart => exact ⟨1, 0, rfl, Nat.zero_le _, rfl, Lib.hid (World.ownsRow_nil _ _ _ _), Lib.hid (Below.refl _ _)⟩
  case round =>
    obtain ⟨k, m, hkm, hm, rfl, HO, HB⟩ := hrel
    obtain ⟨A, c, rfl⟩ := own_form HO.out
    by_cases hlt : k < zs.length
    · obtain ⟨b, o, rfl, hb, hc⟩ := HX.out (List.ne_nil_of_length_pos (by omega))
      have hcell := (HB.out.cell (p := ⟨b, o + k, none⟩) (by simp; omega)).trans (hc k hlt)
      have hcell2 := (HB.out.cell (p := ⟨b, o + m, none⟩) (by simp; omega)).trans (hc m (by omega))
      have hmd : m < ds.length := by rw [HL.out]; omega
      have hx := HW.out.at hlt
      have hy := HW.out.at (show m < zs.length by omega)
      have hdm := HD.out m (by omega)
      rw [← hkm] at hdm
      have hi' : (k : Int) < zs.length := by omega
      have him : (m : Int) < zs.length := by omega
      have hw : IntKind.i64.wrap ((k : Int) - 1) = (m : Int) := by rw [IntWalk.i64_in _ (by omega)]; omega
      clear hc HX HD HW
      generalize zs[k]?.getD 0 = x at *
      generalize zs[m]?.getD 0 = y at *
      obtain ⟨d, hd⟩ : ∃ d, x - y = d := ⟨_, rfl⟩
      have hw2 : IntKind.i64.wrap (x - y) = d := by rw [IntWalk.i64_in _ (by omega)]; exact hd
      have HT := Lib.hid (take_next hmd (hdm.trans hd))
      have HKM := Lib.hid hkm
      have HLL := HL
      have hsz : w.heap.size ≤ wr.heap.size := HB.out.size
      have hml : m + 1 ≤ 1000000 := by omega
      clear hd hdm hx hy hkm
      go_wp2
      go_region_law (refine step_append_lies _ (by rfl) (.tmp 11) (.tmp 22) 22 (by rfl) w.heap.size 3 i0 _ 1 8 Try.underlying22 hi hz0 hz1 hz2 rfl (by decide) _ m _ (by rfl) ((HO.out.alloc _).drew) ⟨wr.heap.size, 0, none⟩ 1 1 [.int .i64 d] (by rfl) (by rfl) (cell_one_new _ _ _) (by simp [Value.oneCell']) (by omega) (by simp only [maxLen]; omega) (by omega) (by simp; omega) (wr.heap.size + 1) (by simp) ?_; intro gg cap w1 hown1 hgrow hat hlt1; have O1 := Lib.hid hown1; have G1 := Lib.hid hgrow; clear hown1 hgrow)
      all_goals
        go_wp2
        go_roundw
        case rel => exact ⟨k + 1, m + 1, by rw [HKM.out], by omega, by go_num, Lib.hid (by rw [HT.out]; exact O1.out), Lib.hid ((HB.out.alloc hsz _).drew.grown G1.out (by simp; omega) (fun g e => (HO.out.lt g e).1))⟩
        case measure => simp [intOf]; omega
    · have HF : Hid (ds.take m = ds) := Lib.hid (List.take_of_length_le (by rw [HL.out]; omega))
      have HM : Hid (m = ds.length) := Lib.hid (by have := HL.out; omega)
      go_wp2
      go_ret
      refine ⟨_, rfl, ?_, HB.out⟩
      have := HO.out
      rw [HF.out] at this
      rw [← HM.out]
      exact this
theorem sums_at {l : List Int} {k : Nat} {d x y : Int} (h : k + 1 < l.length) (hd : (diffs l)[k]?.getD 0 = d) (hx : l[k]?.getD 0 = x) (hy : l[k + 1]?.getD 0 = y) : x + d = y := by
  have := diffs_at l k h
  omega
set_option maxHeartbeats 4000000 in
set_option maxRecDepth 100000 in
theorem sums_any (z : Int) (zs : List Int) (hl : (z :: zs).length ≤ 1000000) (hz : within 2305843009213693952 (z :: zs)) (sv : Value) (w : World) (hI0 : Ints w.heap.size w sv (diffs (z :: zs))) :
    Calls Try.prog 39 #[.int .i64 z, sv] w (IntsOut w (z :: zs)) := by
  obtain ⟨i0, hi, hz0, hz1, hz2⟩ := info_parts infoI
  have hI := hI0.at
  have HL := Lib.hid (diffs_length (z :: zs))
  have HA := Lib.hid fun k d x y => @sums_at (z :: zs) k d x y
  have O0 : Hid ((w.alloc (.cells #[.int .i64 z] 3)).ownsRow w.heap.size 3 1 (.slice (some ⟨w.heap.size, 0, none⟩) 1 1) 1 (ic ((z :: zs).take 1))) := ⟨rfl, .inr ⟨w.heap.size, 1, #[.int .i64 z], rfl, Nat.le_refl _, heap_alloc_new w _, Nat.le_refl _, by unfold maxLen; omega, rfl, by simp [ic]⟩⟩
  have HP : Hid (0 < (z :: zs).length) := Lib.hid (by simp)
  have HW := Lib.hid hz
  clear hI0 hz
  generalize z :: zs = l at *
  generalize diffs l = ds at *
  obtain ⟨a, cap, rfl, hcx⟩ := hI
  have HX := Lib.hid hcx
  clear hcx
  go_enter Try.func39, Try.ntmps39
  go_wp2
  go_loopw [5, 12] (fun vl vi wr => ∃ k : Nat, k ≤ ds.length ∧ vi = .int .i64 k ∧ Hid (wr.ownsRow w.heap.size 3 1 vl (k + 1) (ic (l.take (k + 1)))) ∧ Hid (Below w.heap.size w wr))
    (fun _ vi _ => ds.length - (intOf vi).toNat)
  case atStart => exact ⟨0, Nat.zero_le _, rfl, O0, Lib.hid ((Below.refl _ _).alloc (Nat.le_refl _) _)⟩
  case round =>
    clear O0
    obtain ⟨k, hk, rfl, HO, HB⟩ := hrel
    have hlen := HL.out
    have hpos := HP.out
    by_cases hlt : k < ds.length
    · obtain ⟨g, c, rfl⟩ := ownsRow_succ HO.out
      obtain ⟨b, o, rfl, hb, hc⟩ := HX.out (List.ne_nil_of_length_pos (by omega))
      have hcell := (HB.out.cell (p := ⟨b, o + k, none⟩) (by simp; omega)).trans (hc k hlt)
      have hcell2 : wr.cell? ⟨g, k, none⟩ = some (.int .i64 (l[k]?.getD 0)) := by
        have h := HO.out.cells rfl k (.int .i64 (l[k]?.getD 0)) (by unfold ic; simp [List.getElem?_eq_getElem (show k < l.length by omega)])
        rwa [add_lit, Nat.zero_add] at h
      have hq := HW.out.at (show k + 1 < l.length by omega)
      have hs := HA.out k _ _ _ (by omega) rfl rfl rfl
      have HT := Lib.hid (fun d => @take_next l (k + 1) d (by omega))
      have hi' : (k : Int) < ds.length := by omega
      have hi2 : (k : Int) < k + 1 := by omega
      have hsz : w.heap.size ≤ wr.heap.size := HB.out.size
      clear hc HX HA HW
      generalize ds[k]?.getD 0 = d at *
      generalize l[k]?.getD 0 = x at *
      generalize l[k + 1]?.getD 0 = y at *
      have HTY := Lib.hid (HT.out y rfl)
      have hw : wrap64 (x + d) = y := by rw [hs]; unfold wrap64; omega
      have hle2 : k + 2 ≤ 1000000 := by omega
      have hne : k + 1 ≤ ds.length := by omega
      clear HT hs hlen hpos
      go_wp2_with (at_builtin; refine wpList_append_own _ rfl _ _ 22 rfl w.heap.size 3 i0 (.int .i64 0) 1 8 Try.underlying22 hi hz0 hz1 hz2 rfl (by decide) _ (k + 1) _ rfl (HO.out.alloc _) ⟨wr.heap.size, 0, none⟩ 1 1 [.int .i64 y] rfl rfl (cell_one_new _ _ _) (by simp [Value.oneCell']) (by unfold maxLen; omega) (by omega) (by simp; omega) ?_; intro v4 w4 hown4 hgrow4 _; have B4 := Lib.hid ((HB.out.alloc hsz _).grown hgrow4 (by simp; omega) (fun k hk => (HO.out.lt k hk).1)); have O4 := Lib.hid hown4; clear hown4 hgrow4)
      go_roundw
      case rel => exact ⟨k + 1, by omega, by go_num, Lib.hid (by rw [HTY.out]; exact O4.out), B4⟩
      case measure => simp [intOf]; omega
    · have HF : Hid (l.take (k + 1) = l) := Lib.hid (List.take_of_length_le (by omega))
      have HM : Hid (k + 1 = l.length) := Lib.hid (by omega)
      clear hlen hpos
      go_wp2
      go_ret
      refine ⟨_, rfl, Ints.of_own (B := w.heap.size) ?_ (Nat.le_refl _), HB.out⟩
      have := HO.out
      rw [HF.out] at this
      rw [← HM.out]
      exact this
end Go.Proofs.Ytmeekciclfgkkaa.Dc
