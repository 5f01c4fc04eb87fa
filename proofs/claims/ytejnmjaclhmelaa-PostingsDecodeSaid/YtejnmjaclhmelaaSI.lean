/- Layer 8: the program's merged. -/
import Derived.Test.YtejnmjaclhmelaaSH
set_option linter.unusedVariables false
set_option linter.unusedSimpArgs false
namespace Go.Proofs.Ytejnmjaclhmelaa.Po
open Go.RowKit
def MergedP (ls : List (List Int)) : Prop := ∀ (sv : Value) (w : World), IntsM w.heap.size w sv ls → Calls Try.prog 44 #[sv] w (IntsOut w (mrgL ls))
set_option maxHeartbeats 2000000 in
theorem merged_nil : MergedP [] := by
  rintro sv w ⟨⟨a, cap, rfl, _⟩, _⟩
  go_enter Try.func44, Try.ntmps44
  go_wp2
  go_ret
  exact ⟨_, rfl, Ints.nil_ _ _, Below.refl _ _⟩
set_option maxHeartbeats 2000000 in
theorem merged_one (l : List Int) (hl : l.length ≤ 1000000) (hv : Val l) : MergedP [l] := by
  rintro sv w ⟨_, hI⟩
  obtain ⟨a, cap, rfl, V, h1, h2⟩ := hI
  obtain ⟨b, off, rfl, hb, hc⟩ := h1 (by simp)
  have hcell := hc 0 (by simp)
  rw [Nat.add_zero] at hcell
  have hV := h2 0 (by simp)
  simp only [List.getElem?_cons_zero, Option.getD_some] at hV
  have HM := Lib.hid (cloneI_any l hl (V 0) w hV)
  have HE := Lib.hid (mrg_one hv)
  clear h1 h2 hc
  obtain ⟨av, cv, ev, _⟩ := hV
  rw [ev] at hcell HM
  clear ev
  have hn : ([l] : List (List Int)).length = 1 := rfl
  rw [hn]
  clear hn
  go_enter Try.func44, Try.ntmps44
  go_wp2_with fail
  refine HM.out.mono ?_
  rintro e w1 ⟨v1, rfl, h1, hb1⟩
  have O1 := Lib.hid h1
  have B1 := Lib.hid hb1
  clear h1 hb1
  go_wp2
  go_ret
  rw [HE.out]
  exact ⟨_, rfl, O1.out, B1.out⟩
set_option maxHeartbeats 4000000 in
set_option maxRecDepth 100000 in
theorem merged_many (ls : List (List Int)) (hn : ls.length ≤ 1000000) (hl : tot ls ≤ 1000000) (hv : ∀ l ∈ ls, Val l) (h2 : 2 ≤ ls.length) (ih : ∀ k, 0 < k → k < ls.length → MergedP (ls.take k) ∧ MergedP (ls.drop k)) : MergedP ls := by
  intro sv w hM
  obtain ⟨k, hk, hk1, hk2⟩ : ∃ k, ls.length / 2 = k ∧ 0 < k ∧ k < ls.length := ⟨_, rfl, by omega, by omega⟩
  obtain ⟨b, off, cap, rfl, hcap, m1, m2⟩ := hM.halves hk2
  obtain ⟨i1, i2⟩ := ih k hk1 hk2
  have C1 : Hid (∀ v, Below w.heap.size w v → Calls Try.prog 44 #[.slice (some ⟨b, off, none⟩) k cap] v (IntsOut v (mrgL (ls.take k)))) := Lib.hid fun v hb => i1 _ v (m1.onto hb)
  have C2 : Hid (∀ v, Below w.heap.size w v → Calls Try.prog 44 #[.slice (some ⟨b, off + k, none⟩) (ls.length - k) (cap - k)] v (IntsOut v (mrgL (ls.drop k)))) := Lib.hid fun v hb => i2 _ v (m2.onto hb)
  have t1 := tot_take ls k
  have t2 := tot_drop ls k
  have l1 := mrgL_len (ls.take k)
  have l2 := mrgL_len (ls.drop k)
  have v1 : Val (mrgL (ls.take k)) := mrgL_val fun l h => hv l (List.mem_of_mem_take h)
  have v2 : Val (mrgL (ls.drop k)) := mrgL_val fun l h => hv l (List.mem_of_mem_drop h)
  have CC : Hid (∀ v sa sb, Ints v.heap.size v sa (mrgL (ls.take k)) → Ints v.heap.size v sb (mrgL (ls.drop k)) → Calls Try.prog 53 #[sa, sb, .func (.func 57) #[] #[]] v (IntsOut v (mrgL ls))) := Lib.hid fun v sa sb ha hb => by
    rw [← mrg_halves hv k]
    exact chosen_all _ _ (by omega) (by omega) v1 v2 sa sb v ha hb
  generalize mrgL (ls.take k) = la at *
  generalize mrgL (ls.drop k) = lb at *
  generalize mrgL ls = lc at *
  have e1 := sliceH b off ls.length k cap (by omega)
  have e2 := sliceL b off ls.length k cap (by omega) (by omega)
  have hq : wrap64 ((ls.length : Int) / 2) = (k : Int) := by
    have : (ls.length : Int) / 2 = (k : Int) := by omega
    rw [this]
    unfold RowKit.wrap64
    omega
  have hn0 : ((ls.length : Int) == 0) = false := by rw [beq_eq_false_iff_ne]; omega
  have hn1 : ((ls.length : Int) == 1) = false := by rw [beq_eq_false_iff_ne]; omega
  have B0 := Lib.hid (Below.refl w.heap.size w)
  clear hM ih i1 i2 m1 m2 t1 t2 l1 l2 v1 v2 hv hl hk h2 hn
  generalize ls.length = n at *
  go_enter Try.func44, Try.ntmps44
  go_wp2
  refine wp_region_noPanic ?_
  refine wp_region_held_drew (S := fun _ => True) (by kernel_rfl) trivial (fun hHeld => ?_)
  refine wpAnyH_take (i := 0) (v := _) rfl (by kernel_rfl) (by kernel_rfl) (by kernel_rfl) (fun _ _ _ h => h) (Or.inl ⟨by rfl, by intro w hSw; (try dsimp only at hSw); go_simp; try (with_reducible rfl)⟩) (by assumption) ?_
  try simp only [Act.put, List.setIfInBounds_toArray, List.set_cons_zero, List.set_cons_succ]
  refine wpAnyH_take (i := 1) (v := _) rfl (by kernel_rfl) (by kernel_rfl) (by kernel_rfl) (fun _ _ _ h => h) (Or.inl ⟨by rfl, by intro w hSw; (try dsimp only at hSw); go_simp; try (with_reducible rfl)⟩) (by assumption) ?_
  try simp only [Act.put, List.setIfInBounds_toArray, List.set_cons_zero, List.set_cons_succ]
  refine wpAnyH_take (i := 2) (v := _) rfl (by kernel_rfl) (by kernel_rfl) (by kernel_rfl) (fun _ _ _ h => h) (Or.inl ⟨by rfl, by intro w hSw; (try dsimp only at hSw); go_simp; try (with_reducible rfl)⟩) (by assumption) ?_
  try simp only [Act.put, List.setIfInBounds_toArray, List.set_cons_zero, List.set_cons_succ]
  refine wpAnyH_take (i := 4) (v := _) rfl (by kernel_rfl) (by kernel_rfl) (by kernel_rfl) (fun _ _ _ h => h) (Or.inl ⟨by rfl, by intro w hSw; (try dsimp only at hSw); go_simp; try (with_reducible rfl)⟩) (by assumption) ?_
  try simp only [Act.put, List.setIfInBounds_toArray, List.set_cons_zero, List.set_cons_succ]
  refine wpAnyH_take (i := 5) (v := _) rfl (by kernel_rfl) (by kernel_rfl) (by kernel_rfl) (fun _ _ _ h => h) (Or.inl ⟨by rfl, by intro w hSw; (try dsimp only at hSw); go_simp; try (with_reducible rfl)⟩) (by assumption) ?_
  try simp only [Act.put, List.setIfInBounds_toArray, List.set_cons_zero, List.set_cons_succ]
  refine wpAnyH_take (i := 6) (v := _) rfl (by kernel_rfl) (by kernel_rfl) (by kernel_rfl) (fun _ _ _ h => h) (Or.inl ⟨by rfl, by intro w hSw; (try dsimp only at hSw); go_simp; try (with_reducible rfl)⟩) (by assumption) ?_
  try simp only [Act.put, List.setIfInBounds_toArray, List.set_cons_zero, List.set_cons_succ]
  refine wpAnyH_ready (rs := [3]) (by kernel_rfl) (by simp) ?_
  refine AllReadyH.cons rfl (fun K hK => ?_) AllReadyH.nil
  go_simp
  go_at_call 44
  with_reducible refine Calls.mono (C1.out _ B0.out.drew) ?_
  rintro e w1 ⟨va, rfl, ha, hb1⟩
  have I1 := Lib.hid ha
  have B1 := Lib.hid (B0.out.drew.trans (hb1.mono B0.out.drew.size))
  clear ha hb1
  refine hK.out _ _ trivial (fun hHeld => ?_)
  clear hK K
  try simp only [Act.put, List.setIfInBounds_toArray, List.set_cons_zero, List.set_cons_succ]
  refine wpAnyH_ready (rs := [7]) (by kernel_rfl) (by simp) ?_
  refine AllReadyH.cons rfl (fun K hK => ?_) AllReadyH.nil
  go_simp
  go_at_call 44
  with_reducible refine Calls.mono (C2.out _ B1.out) ?_
  rintro e w2 ⟨vb, rfl, hb, hb2⟩
  have I2 := Lib.hid hb
  have I1' := Lib.hid (I1.out.onto hb2)
  have B2 := Lib.hid (B1.out.trans (hb2.mono B1.out.size))
  clear hb hb2 I1 B1
  refine hK.out _ _ trivial (fun hHeld => ?_)
  clear hK K
  try simp only [Act.put, List.setIfInBounds_toArray, List.set_cons_zero, List.set_cons_succ]
  refine wpAnyH_ready (rs := [8]) (by kernel_rfl) (by simp) ?_
  refine AllReadyH.cons rfl (fun K hK => ?_) AllReadyH.nil
  go_simp
  go_at_call 53
  with_reducible refine Calls.mono (CC.out _ _ _ I1'.out I2.out) ?_
  rintro e w3 ⟨vc, rfl, hc, hb3⟩
  have I3 := Lib.hid hc
  have B3 := Lib.hid (B2.out.trans (hb3.mono B2.out.size))
  clear hc hb3
  refine hK.out _ _ trivial (fun hHeld => ?_)
  clear hK K
  try simp only [Act.put, List.setIfInBounds_toArray, List.set_cons_zero, List.set_cons_succ]
  refine wpAnyH_ready (rs := [9]) (by kernel_rfl) (by simp) ?_
  refine AllReadyH.cons rfl (fun K hK => ?_) AllReadyH.nil
  go_simp
  refine hK.out _ _ trivial (fun hHeld => ?_)
  clear hK K
  try simp only [Act.put, List.setIfInBounds_toArray, List.set_cons_zero, List.set_cons_succ]
  refine wpAnyH_done (by kernel_rfl) ?_ _
  refine NoPanic.normal ?_
  clear hHeld
  go_wp2
  go_ret
  exact ⟨_, rfl, I3.out, B3.out⟩
theorem merged_any : ∀ (n : Nat) (ls : List (List Int)), ls.length ≤ n → ls.length ≤ 1000000 → tot ls ≤ 1000000 → (∀ l ∈ ls, Val l) → MergedP ls
  | 0, ls, h, _, _, _ => by
    have : ls = [] := List.length_eq_zero_iff.1 (by omega)
    subst this
    exact merged_nil
  | n + 1, ls, h, hn, hl, hv => by
    rcases Nat.lt_or_ge ls.length 2 with h2 | h2
    · match ls, h2 with
      | [], _ => exact merged_nil
      | [l], _ => exact merged_one l (by simp [tot] at hl; omega) (hv l (by simp))
    · refine merged_many ls hn hl hv h2 fun k hk hkl => ⟨?_, ?_⟩
      · exact merged_any n _ (by rw [List.length_take]; omega) (by rw [List.length_take]; omega) (Nat.le_trans (tot_take ls k) hl) fun l h => hv l (List.mem_of_mem_take h)
      · exact merged_any n _ (by rw [List.length_drop]; omega) (by rw [List.length_drop]; omega) (Nat.le_trans (tot_drop ls k) hl) fun l h => hv l (List.mem_of_mem_drop h)
end Go.Proofs.Ytejnmjaclhmelaa.Po
