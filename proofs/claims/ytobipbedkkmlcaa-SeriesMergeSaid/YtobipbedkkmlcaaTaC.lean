/- Layer 11: the library's Grow and Concat at lists of samples. -/
import Derived.Lib.AppendZeros
import Derived.Test.YtobipbedkkmlcaaSrR
import Derived.Test.YtobipbedkkmlcaaSrV
set_option linter.unusedVariables false
set_option linter.unusedSimpArgs false
namespace Go.Proofs.Ytobipbedkkmlcaa.Sr
open Go.RowKit
/-- Room for n samples: a row of the call's own that holds none. -/
theorem growS_any (n : Nat) (hn : n ≤ 1000000) (w : World) :
    Calls Try.prog 48 #[.slice none 0 0, .int .i64 n] w fun e w' => ∃ v', e = .returned v' ∧ w'.ownsRow w.heap.size 33 2 v' 0 [] ∧ Below w.heap.size w w' := by
  obtain ⟨i0, hi, hz0, hz1, hz2⟩ := info_parts infoS
  by_cases h0 : n = 0
  · subst h0
    go_enter Try.func48, Try.ntmps48
    go_wp2
    go_ret
    exact ⟨_, rfl, World.ownsRow_nil _ _ _ _, Below.refl _ _⟩
  · have hp : (0 : Int) < n := by omega
    have hw : wrap64 (n : Int) = n := by unfold wrap64; omega
    have hA := fun ty => Lib.run_append_nil_zeros (P := Try.prog) w 22 3 ty 33 i0 (.agg #[.int .i64 0, .int .i64 0]) .i64 .i64 Try.underlying22 Try.underlying3 hi hz0 n (by omega) (by rw [hz1]; omega) (by omega) (by rw [hz2]; omega)
    have hG := grownCap_ge w n 0 33
    have hM := grownCap_le_maxLen w n 0 33 (by unfold maxLen; omega)
    obtain ⟨G, hGe⟩ : ∃ G, grownCap w n 0 33 = G := ⟨_, rfl⟩
    rw [hGe] at hG hM
    simp only [hGe] at hA
    obtain ⟨cs, hcs⟩ : ∃ cs, Builtin.zeroCells (Value.agg #[.int .i64 0, .int .i64 0]).cells n ++ Builtin.zeroCells (Value.agg #[.int .i64 0, .int .i64 0]).cells (G - n) = cs := ⟨_, rfl⟩
    have hsz : cs.size = G * 2 := by
      rw [← hcs, Array.size_append, size_zeroCells, size_zeroCells]
      have : (Value.agg #[.int IntKind.i64 0, .int .i64 0]).cells.size = 2 := rfl
      rw [this]
      omega
    rw [hcs] at hA
    have HO : Hid ((w.drew.alloc (.cells cs 33)).ownsRow w.heap.size 33 2 (.slice (some ⟨w.heap.size, 0, none⟩) 0 G) 0 []) := Lib.hid ⟨rfl, .inr ⟨w.heap.size, G, cs, rfl, Nat.le_refl _, heap_alloc_new w.drew _, Nat.zero_le _, hM, hsz, by simp⟩⟩
    have HB : Hid (Below w.heap.size w (w.drew.alloc (.cells cs 33))) := Lib.hid ((Below.refl _ w).drew.alloc (Nat.le_refl _) _)
    clear hcs hsz hGe
    go_enter Try.func48, Try.ntmps48
    go_wp2_with (at_builtin; refine Lib.wpList_append_run _ rfl _ _ _ _ rfl (.slice none 0 0) (.int .i64 n) rfl rfl _ _ (hA _) ?_)
    go_ret
    exact ⟨_, rfl, HO.out, HB.out⟩
/-- All samples of some lists. -/
def allS (L : List Sl) : List S := L.flatMap fun x => x.l
theorem allS_succ {L : List Sl} {k : Nat} (h : k < L.length) : allS (L.take (k + 1)) = allS (L.take k) ++ L[k].l := by
  have e : L.take (k + 1) = L.take k ++ [L[k]] := by rw [List.take_add_one, List.getElem?_eq_getElem h]; rfl
  rw [e]
  unfold allS
  rw [List.flatMap_append]
  simp
theorem allS_le (L : List Sl) (k : Nat) : (allS (L.take k)).length ≤ (allS L).length := by
  have e : allS L = allS (L.take k) ++ allS (L.drop k) := by
    unfold allS
    rw [← List.flatMap_append, List.take_append_drop]
  rw [e, List.length_append]
  omega
theorem allS_nil (L : List Sl) : allS (L.take 0) = [] := rfl
/-- The lists of a row, each where it lies. -/
def RowsS (w : World) (B b : Nat) (L : List Sl) : Prop := Rows w b L ∧ b < B ∧ ∀ k (h : k < L.length), LS w B L[k].A L[k].l
set_option maxHeartbeats 4000000 in
set_option maxRecDepth 100000 in
theorem concat_any (L : List Sl) (hn : L.length ≤ 100) (hl : (allS L).length ≤ 1000000) (b c : Nat) (w : World) (hI : RowsS w w.heap.size b L) :
    Calls Try.prog 30 #[.slice (some ⟨b, 0, none⟩) L.length c] w (OwnPost (allS L) w) := by
  obtain ⟨i0, hi, hz0, hz1, hz2⟩ := info_parts infoS
  obtain ⟨h1, hb, h2⟩ := hI
  have HC := Lib.hid h1
  have HV := Lib.hid h2
  clear h1 h2
  have KG : Hid (∀ (n : Nat) (v : World), n ≤ 1000000 → Calls Try.prog 48 #[.slice none 0 0, .int .i64 n] v fun e w' => ∃ v', e = .returned v' ∧ w'.ownsRow v.heap.size 33 2 v' 0 [] ∧ Below v.heap.size v w') := Lib.hid fun n v h => growS_any n h v
  have FS := Lib.hid (fun k => @allS_succ L k)
  have HT : Hid (∀ k, (allS (L.take k)).length ≤ 1000000) := Lib.hid fun k => Nat.le_trans (allS_le L k) hl
  have HE : Hid (allS (L.take L.length) = allS L) := Lib.hid (by rw [List.take_of_length_le (Nat.le_refl _)])
  have H0 := Lib.hid (allS_nil L)
  clear hl
  generalize allS L = R at *
  obtain ⟨T, hT⟩ : ∃ T : Nat → List S, (fun k => allS (L.take k)) = T := ⟨_, rfl⟩
  have hT' : ∀ k, allS (L.take k) = T k := fun k => congrFun hT k
  simp only [hT'] at FS HT HE H0
  clear hT hT'
  go_enter Try.func30, Try.ntmps30
  go_wp2
  go_loop [3, 11] (fun vs vi => ∃ k : Nat, k ≤ L.length ∧ vi = .int .i64 k ∧ vs = .int .i64 ((T k).length : Nat)) (fun _ vi => L.length - (intOf vi).toNat)
  case atStart => exact ⟨0, Nat.zero_le _, rfl, by rw [H0.out]; rfl⟩
  case round =>
    obtain ⟨k, hk, rfl, rfl⟩ := hrel
    by_cases hlt : k < L.length
    · have hcell := HC.out k hlt
      have hi' : (k : Int) < L.length := by omega
      have h1 := HT.out k
      have h2 := HT.out (k + 1)
      have h3 : Hid ((T (k + 1)).length = (T k).length + L[k].l.length) := Lib.hid (by rw [FS.out k hlt, List.length_append])
      rw [h3.out] at h2
      generalize L[k] = x at *
      obtain ⟨A, cx, m⟩ := x
      dsimp only at *
      generalize m.length = ml at *
      generalize (T k).length = t at *
      have g1 : ¬ ((t : Int) + (ml : Int)) < 0 := by omega
      have g2 : wrap64 ((t : Int) + (ml : Int)) = (t : Int) + (ml : Int) := by unfold wrap64; omega
      go_wp2
      go_round
      case rel => exact ⟨k + 1, by omega, by go_num, by rw [h3.out]; go_num⟩
      case measure => simp [intOf]; omega
    · have hke : k = L.length := by omega
      have h1 := HT.out k
      have hnlt : ¬ (k : Int) < L.length := by omega
      generalize (T k).length = t at *
      clear hke
      go_wp2_with fail
      refine (KG.out t _ h1).mono ?_
      rintro e w1 ⟨v1, rfl, ho1, hb1⟩
      have O1 : Hid (OwnS w1 w.heap.size v1 (T 0)) := Lib.hid (by rw [H0.out]; exact ho1)
      have B1 := Lib.hid hb1
      clear ho1 hb1 KG
      go_wp2
      go_loopw [6, 27] (fun vo vi wr => ∃ k2 : Nat, k2 ≤ L.length ∧ vi = .int .i64 k2 ∧ Hid (OwnS wr w.heap.size vo (T k2)) ∧ Hid (Below w.heap.size w wr))
        (fun _ vi _ => L.length - (intOf vi).toNat)
      case atStart => exact ⟨0, Nat.zero_le _, rfl, O1, B1⟩
      case round =>
        clear O1 B1
        obtain ⟨j, hj, rfl, HO, HB⟩ := hrel
        by_cases hlt2 : j < L.length
        · have hcell := (HB.out.cell (p := ⟨b, j, none⟩) (by simp; omega)).trans (HC.out j hlt2)
          have RE := Lib.hid ((HV.out j hlt2).below HB.out).reads
          have hi' : (j : Int) < L.length := by omega
          have hF1 := HT.out j
          have hF2 := HT.out (j + 1)
          have FE := Lib.hid (FS.out j hlt2)
          rw [FE.out, List.length_append] at hF2
          obtain ⟨A6, c6, e6, _⟩ := HO.out.form
          subst e6
          generalize L[j] = x at *
          obtain ⟨A, cx, l⟩ := x
          dsimp only at *
          generalize T j = acc at *
          have H1 := Lib.hid (cellsL_one' l)
          go_wp2_with (at_builtin; refine wpList_append_any _ rfl (.tmp 31) (.tmp 32) 22 rfl w.heap.size 33 i0 _ 2 16 Try.underlying22 hi hz0 hz1 hz2 rfl (by decide) (.slice A6 acc.length c6) acc.length (cellsL acc) rfl HO.out w.heap.size A l.length cx (cellsL l) rfl RE.out H1.out (by simp only [maxLen]; omega) (by omega) (by have := HB.out.size; omega) ?_; intro v5 w5 ho hg _; have O5 := Lib.hid ho; have B5 := Lib.hid (HB.out.grown hg (by have := HB.out.size; omega) (fun g e => (World.ownsRow.lt HO.out g e).1)); clear ho hg)
          go_roundw
          case rel =>
            refine ⟨j + 1, by omega, by go_num, Lib.hid ?_, B5⟩
            rw [FE.out]
            unfold OwnS
            rw [List.length_append, cellsL_append]
            exact O5.out
          case measure => simp [intOf]; omega
        · have hje : j = L.length := by omega
          have hnlt2 : ¬ (j : Int) < L.length := by omega
          have hO : Hid (OwnS wr w.heap.size u6 R) := Lib.hid (by
            have := HO.out
            rw [hje, HE.out] at this
            exact this)
          clear HO hje
          go_wp2
          go_ret
          exact ⟨_, rfl, hO.out, HB.out⟩
end Go.Proofs.Ytobipbedkkmlcaa.Sr
