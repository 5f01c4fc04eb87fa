/- Layer 7: Fits, Matches of the reference. Layer 7: Negate of the reference. -/
import Derived.Test.YtdeppcddknakjaaGreatDoorCY
import Derived.Test.YtdeppcddknakjaaGreatDoorCTq
set_option maxRecDepth 100000
set_option linter.unusedVariables false
set_option linter.unusedSimpArgs false
namespace Go.Proofs.YtdeppcddknakjaaGreatDoor.Mx
open Go.RowKit
open Go.Sort (grow)
open Go.Proofs.YtdeppcddknakjaaGreatDoor.Rx (EmpP SameP pfxS ChkP MatS match_ref_is)
open Go.Proofs.YtdeppcddknakjaaGreatDoor.Lab (nameB getL Lb LS refGet_any)
theorem refM_is (p s : ByteArray) (hs : s.size ≤ 1000000) (w : World) : Calls Tryz.prog 74 #[.string p, .string s] w (EmpP (mB p s) w) := match_ref_is hs mB_iff w
set_option maxHeartbeats 4000000 in
theorem refFits_any (m : Mt) (s : ByteArray) (hs : s.size ≤ 1000000) (w : World) : Calls Tryz.prog 41 #[.agg #[.int .i64 m.k, .string m.n, .string m.v], .string s] w (EmpP (fits m s) w) := by
  obtain ⟨k, n, v⟩ := m
  dsimp only
  obtain ⟨W, hW⟩ : ∃ W, W = w.alloc (.cells #[.int .i64 k, .string n, .string v] 25) := ⟨_, rfl⟩
  have HB : Hid (Below w.heap.size w W) := by rw [hW]; exact (Below.refl _ _).alloc (Nat.le_refl _) _
  by_cases h1 : k = 1
  · have HE : Hid (fits ⟨k, n, v⟩ s = (s.toList == v.toList)) := (fits1 h1 s).trans (str_dec s v).symm
    have e1 := bneT h1
    subst hW
    clear h1
    go_enter Tryz.func41, Tryz.ntmps41
    go_wp2
    go_ret
    exact ⟨okE HE.out.symm, HB⟩
  · have e1 := bneF h1
    by_cases h2 : k = 2
    · have HE : Hid (fits ⟨k, n, v⟩ s = !(s.toList == v.toList)) := by
        show _ = _
        rw [fits2 h2, str_dec]
        exact decide_not
      have e2 := bneT h2
      subst hW
      clear h1 h2
      go_enter Tryz.func41, Tryz.ntmps41
      go_wp2
      go_ret
      exact ⟨okE HE.out.symm, HB⟩
    · have e2 := bneF h2
      have HE : Hid (fits ⟨k, n, v⟩ s = (mB v s == (k == 3))) := by
        show _ = _
        unfold fits
        rw [if_neg h1, if_neg h2]
        by_cases h3 : k = 3
        · rw [if_pos h3, bneT h3]; cases mB v s <;> rfl
        · rw [if_neg h3, bneF h3]; cases mB v s <;> rfl
      have hq0 : ∀ dd os, (grow (redrawn W dd) os).cell? ⟨w.heap.size, 0, none⟩ = some (.int .i64 k) := fun dd os => cell_regrown (by rw [hW]; simp) dd os
      have hq2 : ∀ dd os, (grow (redrawn W dd) os).cell? ⟨w.heap.size, 2, none⟩ = some (.string v) := fun dd os => cell_regrown (by rw [hW]; simp) dd os
      have GA : Hid (∀ dd os, Calls Tryz.prog 74 #[.string v, .string s] (grow (redrawn W dd) os) fun e w' => e = .returned (.bool (mB v s)) ∧ Below (grow (redrawn W dd) os).heap.size (grow (redrawn W dd) os) w') := fun dd os => below_of (refM_is v s hs _)
      have mixed : Tryz.prog.follows .mixedOrders = true := by kernel_rfl
      generalize mB v s = r at *
      have HW := Lib.hid hW
      clear hW h1 h2
      go_enter Tryz.func41, Tryz.ntmps41
      go_wp2
      rw [← HW.out]
      refine wp_region_quiet_below (by assumption) (by kernel_rfl) ?_
      iterate 3 quiet_step (fail)
      quiet_step (exact Calls.regrown_of (GA.out _ _))
      iterate 5 quiet_step (fail)
      refine wpQuiet_nil ?_
      intro _ hw'
      obtain ⟨⟨dq, osq⟩, hw''⟩ := hw'
      subst hw''
      have HR : Hid (Below w.heap.size w (grow (redrawn W dq) osq)) := HB.out.trans ((below_regrown W dq osq).mono HB.out.size)
      generalize grow (redrawn W dq) osq = WZ at *
      go_wp2
      go_ret
      exact ⟨okE HE.out.symm, HR⟩
theorem satG_take {l : List Mt} {g : ByteArray → ByteArray} {k : Nat} (hk : k < l.length) (h : satG (l.take k) g = true) : satG (l.take (k + 1)) g = fits l[k] (g l[k].n) := by
  unfold satG at *
  rw [Lab.take_snocL l hk, List.all_append, h, Bool.true_and, List.all_cons, List.all_nil, Bool.and_true]
theorem satG_false {l : List Mt} {g : ByteArray → ByteArray} {k : Nat} (hk : k < l.length) (h : fits l[k] (g l[k].n) = false) : satG l g = false := by
  unfold satG
  rw [List.all_eq_false]
  exact ⟨_, List.getElem_mem hk, by rw [h]; simp⟩
set_option maxHeartbeats 8000000 in
theorem refMatches_any (l : List Mt) (hl : Sz' l) (ls : List Lb) (hz : Lz ls) (A C : Option Addr) (c d : Nat) (w : World) (hM : MS w w.heap.size A l) (hL : LS w w.heap.size C ls) :
    Calls Tryz.prog 18 #[.slice A l.length c, .slice C ls.length d] w (EmpP (matA l ls) w) := by
  have hlm := hl.len
  unfold maxLen at hlm
  have KC := Lib.hid (refCheck_any l hl A c w hM)
  have HM := Lib.hid hM
  have HL := Lib.hid hL
  have HZ := Lib.hid (getL_size hz.v)
  have HN := Lib.hid hz.len
  have mixed : Tryz.prog.follows .mixedOrders = true := by kernel_rfl
  clear hM hL
  by_cases hc : chkA l = 0
  · rw [hc] at KC
    have HE : Hid (matA l ls = satG l (getL ls)) := by
      show _ = _
      unfold matA
      rw [decide_eq_true hc, Bool.true_and]
    rw [HE.out]
    clear hc HE
    go_enter Tryz.func18, Tryz.ntmps18
    go_wp2_with fail
    refine KC.out.mono ?_
    rintro e w1 ⟨rfl, b1⟩
    go_wp2
    go_loopw [5] (fun i wr => ∃ k : Nat, k ≤ l.length ∧ i = .int .i64 k ∧ Hid (satG (l.take k) (getL ls) = true) ∧ Hid (Below w.heap.size w wr)) (fun i _ => l.length - (intOf i).toNat)
    case atStart => exact ⟨0, by omega, rfl, rfl, b1⟩
    case round =>
      clear b1
      obtain ⟨k, hk, rfl, H, HB⟩ := hrel
      by_cases hlt : k < l.length
      · obtain ⟨b, off, rfl, hb, h1', h2', h3'⟩ := HM.out.at_ hlt
        have hq1 : ∀ dd os, (grow (redrawn wr dd) os).cell? ⟨b, off + k * 3, none⟩ = some (.int .i64 l[k].k) := fun dd os => cell_regrown ((HB.out.cell (p := ⟨b, off + k * 3, none⟩) hb).trans h1') dd os
        have hq2 : ∀ dd os, (grow (redrawn wr dd) os).cell? ⟨b, off + k * 3 + 1, none⟩ = some (.string l[k].n) := fun dd os => cell_regrown ((HB.out.cell (p := ⟨b, off + k * 3 + 1, none⟩) hb).trans h2') dd os
        have hq3 : ∀ dd os, (grow (redrawn wr dd) os).cell? ⟨b, off + k * 3 + 2, none⟩ = some (.string l[k].v) := fun dd os => cell_regrown ((HB.out.cell (p := ⟨b, off + k * 3 + 2, none⟩) hb).trans h3') dd os
        have HS := Lib.hid (satG_take hlt H.out)
        have HF := Lib.hid (fun h => satG_false (g := getL ls) hlt h)
        have GA : Hid (∀ dd os, Calls Tryz.prog 42 #[.slice C ls.length d, .string l[k].n] (grow (redrawn wr dd) os) fun e w' => e = .returned (.string (getL ls l[k].n)) ∧ Below (grow (redrawn wr dd) os).heap.size (grow (redrawn wr dd) os) w') := fun dd os =>
          (refGet_any ls (by have := HN.out; unfold maxLen; omega) l[k].n C d _ _ (LS_up (LS_up HL.out HB.out) (below_regrown _ dd os))).mono fun e w' ⟨he, hw⟩ => ⟨he, hw ▸ Below.refl _ _⟩
        have GB : Hid (∀ dd os, Calls Tryz.prog 41 #[.agg #[.int .i64 l[k].k, .string l[k].n, .string l[k].v], .string (getL ls l[k].n)] (grow (redrawn wr dd) os) fun e w' => e = .returned (.bool (fits l[k] (getL ls l[k].n))) ∧ Below (grow (redrawn wr dd) os).heap.size (grow (redrawn wr dd) os) w') := fun dd os =>
          below_of (refFits_any l[k] (getL ls l[k].n) (by have := HZ.out l[k].n; omega) _)
        clear h1' h2' h3' H
        generalize fits l[k] (getL ls l[k].n) = r at *
        generalize getL ls l[k].n = gg at *
        generalize l[k] = x at *
        go_wp2_with fail
        refine wp_region_quiet_below (by assumption) (by kernel_rfl) ?_
        iterate 10 quiet_step (fail)
        quiet_step (exact Calls.regrown_of (GA.out _ _))
        quiet_step (exact Calls.regrown_of (GB.out _ _))
        quiet_step (fail)
        refine wpQuiet_nil ?_
        intro _ hw'
        obtain ⟨⟨dq, osq⟩, hw''⟩ := hw'
        subst hw''
        have HR : Hid (Below w.heap.size w (grow (redrawn wr dq) osq)) := HB.out.trans ((below_regrown wr dq osq).mono HB.out.size)
        clear hq1 hq2 hq3 GA GB
        generalize grow (redrawn wr dq) osq = WZ at *
        cases hr : r with
        | true =>
          rw [hr] at HS
          clear HF hr
          go_wp2
          go_roundw
          case rel => exact ⟨k + 1, by omega, by go_num, HS, HR⟩
          case measure => simp [intOf]; omega
        | false =>
          have HX := Lib.hid (HF.out hr)
          clear HS HF hr
          go_wp2
          go_ret
          exact ⟨okE HX.out.symm, HR⟩
      · have HX : Hid (satG l (getL ls) = true) := by
          have h := H.out
          rwa [List.take_of_length_le (by omega)] at h
        clear H
        go_wp2
        go_ret
        exact ⟨okE HX.out.symm, HB⟩
  · have HE : Hid (matA l ls = false) := by
      show _ = _
      unfold matA
      rw [decide_eq_false hc]
      rfl
    have e0 := bneF hc
    have e0' : (chkA l != 0) = true := by rw [bne, e0]; rfl
    rw [HE.out]
    clear hc HE
    generalize chkA l = q at *
    go_enter Tryz.func18, Tryz.ntmps18
    go_wp2_with fail
    refine KC.out.mono ?_
    rintro e w1 ⟨rfl, b1⟩
    go_wp2
    go_ret
    exact ⟨rfl, b1⟩
end Go.Proofs.YtdeppcddknakjaaGreatDoor.Mx
namespace Go.Proofs.YtdeppcddknakjaaGreatDoor.Mx
open Go.RowKit
open Go.Sort (grow)
open Go.Proofs.YtdeppcddknakjaaGreatDoor.Rx (EmpP SameP pfxS ChkP)
theorem three_alloc (w : World) (a b c : Obj) : Hid (Below w.heap.size w ((((w.alloc a).alloc b).alloc c).drew)) := ((((Below.refl _ _).alloc (Nat.le_refl _) _).alloc (by simp) _).alloc (by simp; omega) _).drew
set_option maxHeartbeats 4000000 in
theorem refNeg1_any (n v : ByteArray) (w : World) : Calls Tryz.prog 20 #[.agg #[.int .i64 1, .string n, .string v]] w (MtP ⟨2, n, v⟩ w) := by
  have mixed : Tryz.prog.follows .mixedOrders = true := by kernel_rfl
  go_enter Tryz.func20, Tryz.ntmps20
  go_wp2_with fail
  go_region
  go_wp2
  exact bodyPost_ret (v := .agg #[.int .i64 2, .string n, .string v]) (by simp [results, Tryz.f20, go_sem]) rfl ⟨rfl, three_alloc _ _ _ _⟩
set_option maxHeartbeats 4000000 in
theorem refNeg2_any (n v : ByteArray) (w : World) : Calls Tryz.prog 20 #[.agg #[.int .i64 2, .string n, .string v]] w (MtP ⟨1, n, v⟩ w) := by
  have mixed : Tryz.prog.follows .mixedOrders = true := by kernel_rfl
  go_enter Tryz.func20, Tryz.ntmps20
  go_wp2_with fail
  go_region
  go_wp2
  exact bodyPost_ret (v := .agg #[.int .i64 1, .string n, .string v]) (by simp [results, Tryz.f20, go_sem]) rfl ⟨rfl, three_alloc _ _ _ _⟩
set_option maxHeartbeats 4000000 in
theorem refNeg3_any (n v : ByteArray) (w : World) : Calls Tryz.prog 20 #[.agg #[.int .i64 3, .string n, .string v]] w (MtP ⟨4, n, v⟩ w) := by
  have mixed : Tryz.prog.follows .mixedOrders = true := by kernel_rfl
  go_enter Tryz.func20, Tryz.ntmps20
  go_wp2_with fail
  go_region
  go_wp2
  exact bodyPost_ret (v := .agg #[.int .i64 4, .string n, .string v]) (by simp [results, Tryz.f20, go_sem]) rfl ⟨rfl, three_alloc _ _ _ _⟩
set_option maxHeartbeats 4000000 in
theorem refNeg4_any (n v : ByteArray) (w : World) : Calls Tryz.prog 20 #[.agg #[.int .i64 4, .string n, .string v]] w (MtP ⟨3, n, v⟩ w) := by
  have mixed : Tryz.prog.follows .mixedOrders = true := by kernel_rfl
  go_enter Tryz.func20, Tryz.ntmps20
  go_wp2_with fail
  go_region
  go_wp2
  exact bodyPost_ret (v := .agg #[.int .i64 3, .string n, .string v]) (by simp [results, Tryz.f20, go_sem]) rfl ⟨rfl, three_alloc _ _ _ _⟩
set_option maxHeartbeats 4000000 in
theorem refNeg_any (m : Mt) (w : World) : Calls Tryz.prog 20 #[.agg #[.int .i64 m.k, .string m.n, .string m.v]] w (MtP (neg m) w) := by
  obtain ⟨k, n, v⟩ := m
  dsimp only
  by_cases h : k = 1 ∨ k = 2 ∨ k = 3 ∨ k = 4
  · rcases h with rfl | rfl | rfl | rfl
    · exact refNeg1_any n v w
    · exact refNeg2_any n v w
    · exact refNeg3_any n v w
    · exact refNeg4_any n v w
  · have HE : Hid (neg ⟨k, n, v⟩ = ⟨0, ⟨#[]⟩, ⟨#[]⟩⟩) := by
      show _ = _
      unfold neg
      rw [if_neg (by show ¬ k = 1; omega), if_neg (by show ¬ k = 2; omega), if_neg (by show ¬ k = 3; omega), if_neg (by show ¬ k = 4; omega)]
    rw [HE.out]
    by_cases h1 : k < 1
    · have e1 : decide (k < 1) = true := decide_eq_true h1
      clear h HE
      go_enter Tryz.func20, Tryz.ntmps20
      go_wp2
      exact bodyPost_ret (v := .agg #[.int .i64 0, .string ⟨#[]⟩, .string ⟨#[]⟩]) (by simp [results, Tryz.f20, go_sem]) rfl ⟨rfl, two_alloc _ _ _ _ _⟩
    · have e1 : decide (k < 1) = false := decide_eq_false h1
      have h4 : 4 < k := by omega
      have e4 : decide (4 < k) = true := decide_eq_true h4
      clear h HE
      go_enter Tryz.func20, Tryz.ntmps20
      go_wp2
      exact bodyPost_ret (v := .agg #[.int .i64 0, .string ⟨#[]⟩, .string ⟨#[]⟩]) (by simp [results, Tryz.f20, go_sem]) rfl ⟨rfl, two_alloc _ _ _ _ _⟩
end Go.Proofs.YtdeppcddknakjaaGreatDoor.Mx
