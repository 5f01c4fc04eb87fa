/- Layer 8: the library's Contains and Concat at lists of numbers. -/
import Derived.Test.YtejnmjaclhmelaaSJ
import Derived.Lib.AppendZeros
set_option linter.unusedVariables false
set_option linter.unusedSimpArgs false
namespace Go.Proofs.Ytejnmjaclhmelaa.Po
open Go.RowKit
def FoundN (x : Int) (l : List Int) (k : Int) : Prop := 0 ≤ k ↔ hasB x l = true
theorem FoundN.yes {x : Int} {l : List Int} {k : Nat} (h : x ∈ l) : FoundN x l (k : Int) := ⟨fun _ => hasB_yes h, fun _ => by omega⟩
theorem FoundN.no {x : Int} {l : List Int} (h : x ∉ l) : FoundN x l (-1) := ⟨fun h => absurd h (by decide), fun h2 => by rw [hasB_no h] at h2; cases h2⟩
set_option maxHeartbeats 1000000 in
set_option maxRecDepth 100000 in
theorem idxN_any (zs : List Int) (hl : zs.length ≤ 1000000) (sv : Value) (x : Int) (w : World) (hI : Ints w.heap.size w sv zs) :
    Calls Try.prog 51 #[sv, .int .i64 x] w fun e w' => (∃ k : Int, e = .returned (.int .i64 k) ∧ FoundN x zs k ∧ -1 ≤ k) ∧ w = w' := by
  obtain ⟨a, cap, rfl, hcx⟩ := hI.at
  have HX := Lib.hid hcx
  clear hcx hI
  go_enter Try.func51, Try.ntmps51
  go_wp2
  go_loop [8] (fun vi => ∃ k : Nat, k ≤ zs.length ∧ vi = .int .i64 k ∧ Hid (x ∉ zs.take k)) (fun vi => zs.length - (intOf vi).toNat)
  case atStart => exact ⟨0, Nat.zero_le _, rfl, Lib.hid (by simp)⟩
  case round =>
    obtain ⟨k, hk, rfl, HP⟩ := hrel
    by_cases hlt : k < zs.length
    · obtain ⟨b, o, rfl, hb, hc⟩ := HX.out (List.ne_nil_of_length_pos (by omega))
      have hcell := hc k hlt
      have hi : (k : Int) < zs.length := by omega
      have HM := Lib.hid (at_mem hlt)
      have HN := Lib.hid (not_take_succ hlt HP.out)
      clear hc HX
      generalize zs[k]?.getD 0 = y at *
      by_cases hxy : x = y
      · have hq : (x == y) = true := by rw [hxy]; simp
        have HF := Lib.hid (FoundN.yes (k := k) (hxy ▸ HM.out))
        clear hxy HN HM
        go_wp2
        go_ret
        exact ⟨⟨k, rfl, HF.out, by omega⟩, rfl⟩
      · have hq : (x == y) = false := by rw [beq_eq_false_iff_ne]; exact hxy
        have HF := Lib.hid (HN.out (fun e => hxy e.symm))
        clear hxy HN HM
        go_wp2
        go_round
        case rel => exact ⟨k + 1, by omega, by go_num, HF⟩
        case measure => simp [intOf]; omega
    · have HF : Hid (FoundN x zs (-1)) := by
        have h := HP.out
        rw [List.take_of_length_le (by omega)] at h
        exact Lib.hid (FoundN.no h)
      go_wp2
      go_ret
      exact ⟨⟨-1, rfl, HF.out, by decide⟩, rfl⟩
set_option maxHeartbeats 1000000 in
theorem conN_any (zs : List Int) (hl : zs.length ≤ 1000000) (sv : Value) (x : Int) (w : World) (hI : Ints w.heap.size w sv zs) :
    Calls Try.prog 32 #[sv, .int .i64 x] w fun e w' => e = .returned (.bool (hasB x zs)) ∧ w = w' := by
  have HM := Lib.hid (idxN_any zs hl sv x w hI)
  obtain ⟨a, ca, rfl, _⟩ := hI
  go_enter Try.func32, Try.ntmps32
  go_wp2_with fail
  refine HM.out.mono ?_
  rintro e w4 ⟨⟨k, rfl, hk, hk1⟩, rfl⟩
  have HK := Lib.hid hk
  clear hk
  go_wp2
  go_ret
  exact ⟨ret_bool (Bool.eq_iff_iff.2 (by rw [decide_eq_true_iff]; exact HK.out)), rfl⟩
/-- Room for n numbers: a row of the call's own that holds none. -/
theorem growN_any (n : Nat) (hn : n ≤ 1000000) (w : World) :
    Calls Try.prog 50 #[.slice none 0 0, .int .i64 n] w fun e w' => ∃ v', e = .returned v' ∧ w'.ownsRow w.heap.size 3 1 v' 0 [] ∧ Below w.heap.size w w' := by
  obtain ⟨i0, hi, hz0, hz1, hz2⟩ := info_parts infoI
  by_cases h0 : n = 0
  · subst h0
    go_enter Try.func50, Try.ntmps50
    go_wp2
    go_ret
    exact ⟨_, rfl, World.ownsRow_nil _ _ _ _, Below.refl _ _⟩
  · have hp : (0 : Int) < n := by omega
    have hw : wrap64 (n : Int) = n := by unfold wrap64; omega
    have hA := fun ty => Lib.run_append_nil_zeros (P := Try.prog) w 22 3 ty 3 i0 (.int .i64 0) .i64 .i64 Try.underlying22 Try.underlying3 hi hz0 n (by omega) (by omega) (by omega) (by rw [hz2]; omega)
    have hG := grownCap_ge w n 0 3
    have hM := grownCap_le_maxLen w n 0 3 (by unfold maxLen; omega)
    obtain ⟨G, hGe⟩ : ∃ G, grownCap w n 0 3 = G := ⟨_, rfl⟩
    rw [hGe] at hG hM
    simp only [hGe] at hA
    obtain ⟨cs, hcs⟩ : ∃ cs, Builtin.zeroCells (Value.int .i64 0).cells n ++ Builtin.zeroCells (Value.int .i64 0).cells (G - n) = cs := ⟨_, rfl⟩
    have hsz : cs.size = G := by
      rw [← hcs, Array.size_append, size_zeroCells, size_zeroCells]
      have : (Value.int IntKind.i64 0).cells.size = 1 := rfl
      rw [this]
      omega
    rw [hcs] at hA
    have HO : Hid ((w.drew.alloc (.cells cs 3)).ownsRow w.heap.size 3 1 (.slice (some ⟨w.heap.size, 0, none⟩) 0 G) 0 []) := Lib.hid ⟨rfl, .inr ⟨w.heap.size, G, cs, rfl, Nat.le_refl _, heap_alloc_new w.drew _, Nat.zero_le _, hM, by rw [hsz, Nat.mul_one], by simp⟩⟩
    have HB : Hid (Below w.heap.size w (w.drew.alloc (.cells cs 3))) := Lib.hid ((Below.refl _ w).drew.alloc (Nat.le_refl _) _)
    clear hcs hsz hGe
    go_enter Try.func50, Try.ntmps50
    go_wp2_with (at_builtin; refine Lib.wpList_append_run _ rfl _ _ _ _ rfl (.slice none 0 0) (.int .i64 n) rfl rfl _ _ (hA _) ?_)
    go_ret
    exact ⟨_, rfl, HO.out, HB.out⟩
end Go.Proofs.Ytejnmjaclhmelaa.Po
