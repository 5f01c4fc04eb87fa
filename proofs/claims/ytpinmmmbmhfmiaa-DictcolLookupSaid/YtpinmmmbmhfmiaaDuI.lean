/- Layer 10: slices.Repeat of one string. -/
import Derived.Shelf.Bits.Mul64
import Derived.Laws.CopyRow
import Derived.Laws.OwnMore
import Derived.Deep.RegionLaw
import Derived.Test.YtpinmmmbmhfmiaaShelf
import Derived.Test.YtpinmmmbmhfmiaaDtE
set_option linter.unusedVariables false
set_option linter.unusedSimpArgs false
namespace Go.Proofs.Ytpinmmmbmhfmiaa.Dt
open Go.RowKit Dc
theorem mul_any (y : Nat) (hy : y ≤ 100000) (w : World) :
    Calls Try.prog 94 #[.int .u64 1, .int .u64 y] w fun e w' => e = .returned (.tuple #[.int .u64 0, .int .u64 y]) ∧ w = w' := by
  have H := Any.bits_Mul64 Try.mul64 1 y (by decide) (by omega) w
  rw [show ((1 * y / 18446744073709551616 : Nat) : Int) = 0 by omega, show ((1 * y % 18446744073709551616 : Nat) : Int) = (y : Int) by omega] at H
  have HM : Hid (Calls Try.prog 101 #[.int .u64 1, .int .u64 y] w fun e w' => e = .returned (.tuple #[.int .u64 0, .int .u64 y]) ∧ w' = w) := H
  clear H
  go_enter Try.func94, Try.ntmps94
  go_wp2_with fail
  refine HM.out.mono ?_
  rintro e w' ⟨rfl, rfl⟩
  go_wp2
  go_ret2
  exact ⟨rfl, rfl⟩
/-- cs copied into a full row, from o on. -/
theorem copy_at (w : World) (ty : TypeId) (B g k o dLen dCap : Nat) (a : Addr) (sLen sCap c : Nat) (L cs : List BA) (hO : w.ownsRow B 9 1 (.slice (some ⟨g, 0, none⟩) k k) k (sc L))
    (hmin : Nat.min sLen dLen = c) (hc : cs.length = c) (hfit : o + c ≤ k) (hsrc : ∀ j (h : j < cs.length), w.cell? (a.add j) = some (.string cs[j])) :
    ∃ w', (Builtin.copy_ #[22, 22] ty #[.slice (some ⟨g, o, none⟩) dLen dCap, .slice (some a) sLen sCap]).run Try.prog w = .ok (goInt (c : Int)) w' ∧ w'.ownsRow B 9 1 (.slice (some ⟨g, 0, none⟩) k k) k (sc (L.take o ++ (cs ++ L.drop (o + c)))) ∧ w.grownBy w' (some g) := by
  have hLl : L.length = k := by have := hO.1; rw [sc_len] at this; omega
  rcases hO.2 with ⟨h', h0⟩ | ⟨g', cap', cur, h', hb, hg, hnc, hcm, hcs, htake⟩
  · simp at h'
  · simp only [Value.slice.injEq, Option.some.injEq, Addr.mk.injEq, and_true, true_and] at h'
    obtain ⟨rfl, rfl⟩ := h'
    have hcl : cur.toList.length = k := by rw [Array.length_toList, hcs, Nat.mul_one]
    have hcur : cur.toList = sc L := by rw [← htake, List.take_of_length_le (by omega)]
    have hrun := run_copy_str w ty g o dLen dCap a sLen sCap c cur.toList (sc cs) (by simpa using hg) hmin (by rw [sc_len]; exact hc.symm) (fun j v hj => by
        have hjl := (List.getElem?_eq_some_iff.1 hj).1
        rw [sc_len] at hjl
        rw [hsrc j hjl, ← hj, sc_at hjl, at_get hjl]) (by rw [sc_len, hcl, hc]; exact hfit) (sc_one cs)
    refine ⟨_, hrun, ⟨?_, .inr ⟨g, k, _, rfl, hb, setRow_heap w g cur _ _ _ hg, Nat.le_refl _, hcm, ?_, ?_⟩⟩, grown_setRow _ _ _⟩
    · rw [sc_len, List.length_append, List.length_append, List.length_take, List.length_drop]
      omega
    · rw [List.size_toArray]
      unfold over
      simp only [List.length_append, List.length_take, List.length_drop]
      rw [sc_len, hcl]
      omega
    · unfold over
      rw [hcur, sc_len, hc]
      have e : ((sc L).take o ++ (sc cs ++ (sc L).drop (o + c))) = sc (L.take o ++ (cs ++ L.drop (o + c))) := by
        unfold sc
        rw [List.map_append, List.map_append, List.map_take, List.map_drop]
      rw [e]
      have e2 : (sc (L.take o ++ (cs ++ L.drop (o + c)))).toArray.toList = sc (L.take o ++ (cs ++ L.drop (o + c))) := by simp
      rw [e2]
      refine List.take_of_length_le ?_
      rw [sc_len, List.length_append, List.length_append, List.length_take, List.length_drop]
      omega
/-- n of k strings are there. -/
def repL (s : BA) (n k : Nat) : List BA := List.replicate n s ++ List.replicate (k - n) ⟨#[]⟩
theorem repL_len (s : BA) {n k : Nat} (h : n ≤ k) : (repL s n k).length = k := by unfold repL; rw [List.length_append, List.length_replicate, List.length_replicate]; omega
theorem repL_more (s : BA) {n c k : Nat} (h : n + c ≤ k) : (repL s n k).take n ++ (List.replicate c s ++ (repL s n k).drop (n + c)) = repL s (n + c) k := by
  unfold repL
  rw [List.take_left' (List.length_replicate ..), ← List.append_assoc, List.replicate_append_replicate, List.drop_append, List.drop_eq_nil_of_le (by rw [List.length_replicate]; omega), List.nil_append, List.length_replicate, List.drop_replicate]
  congr 2
  omega
theorem repL_all (s : BA) (k : Nat) : repL s k k = List.replicate k s := by unfold repL; simp
theorem copy_rep (w : World) (ty : TypeId) (B g n c k dCap sCap : Nat) (s : BA) (hO : w.ownsRow B 9 1 (.slice (some ⟨g, 0, none⟩) k k) k (sc (repL s n k))) (hn : n ≤ k) (hc : Nat.min n (k - n) = c) :
    ∃ w', (Builtin.copy_ #[22, 22] ty #[.slice (some ⟨g, n, none⟩) (k - n) dCap, .slice (some ⟨g, 0, none⟩) n sCap]).run Try.prog w = .ok (goInt (c : Int)) w' ∧ w'.ownsRow B 9 1 (.slice (some ⟨g, 0, none⟩) k k) k (sc (repL s (n + c) k)) ∧ w.grownBy w' (some g) := by
  have hcn : c ≤ n ∧ c ≤ k - n := by subst hc; exact ⟨Nat.min_le_left _ _, Nat.min_le_right _ _⟩
  have h := copy_at w ty B g k n (k - n) dCap ⟨g, 0, none⟩ n sCap c (repL s n k) (List.replicate c s) hO hc (List.length_replicate ..) (by omega) (fun j hj => by
    rw [List.length_replicate] at hj
    have h2 := hO.cells (g := g) rfl j (.string s) (by
      rw [sc_at (by rw [repL_len s hn]; omega)]
      unfold repL
      rw [List.getElem?_append_left (by rw [List.length_replicate]; omega), List.getElem?_replicate, if_pos (by omega)]
      rfl)
    rw [h2, List.getElem_replicate])
  rw [repL_more s (by omega)] at h
  exact h
theorem rep_new (w : World) (s : BA) (k : Nat) (hk : k ≤ 100000) : ∃ w', (Instr.makeSlice 22 (.int .i64 (k : Int)) (.int .i64 (k : Int))).run Try.prog w = .ok (.slice (some ⟨w.heap.size, 0, none⟩) k k) w' ∧ w'.ownsRow w.heap.size 9 1 (.slice (some ⟨w.heap.size, 0, none⟩) k k) k (sc (repL s 0 k)) ∧ Below w.heap.size w w' := by
  obtain ⟨i0, hi, hz0, hz1, hz2⟩ := info_parts infoS
  obtain ⟨w', h1, h2, h3⟩ := run_makeSlice_full w (P := Try.prog) w.heap.size 22 9 i0 (.string ⟨#[]⟩) 1 Try.underlying22 hi hz0 hz1 .i64 .i64 k (by omega) (by rw [hz2]; omega) (by simp only [maxLen]; omega) (Nat.le_refl _)
  refine ⟨w', h1, ?_, (Below.refl _ w).grown h3 (Nat.le_refl _) (fun j hj => by cases hj)⟩
  have e : (madeCells (Value.string ⟨#[]⟩).cells (k * 1)).toList = sc (repL s 0 k) := by
    have e1 : (madeCells (Value.string ⟨#[]⟩).cells (k * 1)).toList = List.replicate (k * 1) (Value.string ⟨#[]⟩) := toList_madeCells_one _ _
    rw [e1, Nat.mul_one]
    unfold repL sc
    simp
  rw [← e]
  exact h2
set_option maxHeartbeats 1000000 in
set_option maxRecDepth 100000 in
theorem repeat_any (s : BA) (k : Nat) (hk : 1 ≤ k) (hk2 : k ≤ 100000) (b off cx : Nat) (w : World) (hb : b < w.heap.size) (hc : w.cell? ⟨b, off, none⟩ = some (.string s)) :
    Calls Try.prog 79 #[.slice (some ⟨b, off, none⟩) 1 cx, .int .i64 k] w (StrsOut w (List.replicate k s)) := by
  have HM := Lib.hid (mul_any k hk2 w)
  obtain ⟨w1, hmk, hO1, hB1⟩ := rep_new w s k hk2
  obtain ⟨w2, hcp, hO2, hG2⟩ := copy_at w1 3 w.heap.size w.heap.size k 0 k k ⟨b, off, none⟩ 1 cx 1 (repL s 0 k) [s] hO1 (by simp only [Nat.min_def]; split <;> omega) rfl (by omega) (fun j hj => by
    have : j = 0 := by simpa using hj
    subst this
    rw [add_lit]
    exact (hB1.cell (p := ⟨b, off + 0, none⟩) hb).trans hc)
  have hO3 : w2.ownsRow w.heap.size 9 1 (.slice (some ⟨w.heap.size, 0, none⟩) k k) k (sc (repL s 1 k)) := by
    have h := repL_more s (n := 0) (c := 1) (k := k) (by omega)
    rw [Nat.zero_add] at h
    rw [← h]
    exact hO2
  have B2 := Lib.hid (hB1.grown hG2 (by have := hB1.size; exact this) (fun j hj => by cases hj; exact Nat.le_refl _))
  have O2 := Lib.hid hO3
  have h1 : (0 : Int) ≤ k := by omega
  have h2 : ¬ (k : Int) < 0 := by omega
  have hu : IntKind.u64.wrap (k : Int) = k := IntWalk.u64_in _ (by omega)
  have hu2 : IntKind.i64.wrap (k : Int) = k := IntWalk.i64_in _ (by omega)
  have HMK := Lib.hid hmk
  have HCP := Lib.hid hcp
  clear hmk hcp hO1 hB1 hO2 hG2 hO3
  go_enter Try.func79, Try.ntmps79
  go_wp2_with fail
  refine HM.out.mono ?_
  rintro e w' ⟨rfl, rfl⟩
  have hmk := HMK.out
  have hcp := HCP.out
  go_wp2
  clear hmk hcp HMK HCP
  go_loopw [8] (fun vn wr => ∃ n : Nat, 1 ≤ n ∧ n ≤ k ∧ vn = .int .i64 n ∧ Hid (wr.ownsRow w.heap.size 9 1 (.slice (some ⟨w.heap.size, 0, none⟩) k k) k (sc (repL s n k))) ∧ Hid (Below w.heap.size w wr))
    (fun vn _ => k - (intOf vn).toNat)
  case atStart => exact ⟨1, Nat.le_refl _, hk, rfl, O2, B2⟩
  case round =>
    obtain ⟨n, hn1, hnk, rfl, HO, HB⟩ := hrel
    clear O2 B2
    by_cases hlt : n < k
    · have hlti : (n : Int) < k := by omega
      obtain ⟨c, hc⟩ : ∃ c, Nat.min n (k - n) = c := ⟨_, rfl⟩
      have hc2 : 1 ≤ c ∧ c ≤ n ∧ c ≤ k - n := by simp only [Nat.min_def] at hc; split at hc <;> omega
      obtain ⟨w5, hcp, ho5, hg5⟩ := copy_rep wr.drew 3 w.heap.size w.heap.size n c k (k - n) k s HO.out hnk hc
      have O5 := Lib.hid ho5
      have B5 := Lib.hid (HB.out.drew.grown hg5 (by have := HB.out.size; exact this) (fun j hj => by cases hj; exact Nat.le_refl _))
      have hne : ¬ (k = n) := by omega
      have hnk2 : (n : Int) ≤ k := by omega
      have hw1 : IntKind.i64.wrap ((n : Int) + c) = (n : Int) + c := IntWalk.i64_in _ (by omega)
      clear ho5 hg5 hc
      go_wp2
      go_region_law (refine Go.Proofs.step_copy_runI rfl _ _ 22 22 rfl (.slice (some ⟨w.heap.size, n, none⟩) (k - n) (k - n)) (.slice (some ⟨w.heap.size, 0, none⟩) n k) (by simp [Act.eval, Act.put]) (by simp [Act.eval, Act.put]) hcp ?_)
      go_simp
      go_roundw
      case rel => exact ⟨_, _, _, _, _, _, _, _, _, _, _, _, _, _, ⟨n + c, by omega, by omega, by go_num, O5, B5⟩, rfl⟩
      case measure => simp [intOf]; omega
    · obtain rfl : n = k := by omega
      go_wp2
      go_ret
      refine ⟨_, rfl, ?_, HB.out⟩
      have := HO.out
      rw [repL_all] at this
      unfold OwnS
      rw [List.length_replicate]
      exact this
end Go.Proofs.Ytpinmmmbmhfmiaa.Dt
