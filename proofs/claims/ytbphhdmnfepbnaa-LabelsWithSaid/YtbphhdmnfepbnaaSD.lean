/- Layer 5: slices.Insert at labels: one label anywhere. -/
import Derived.Test.YtbphhdmnfepbnaaSC
set_option linter.unusedVariables false
set_option linter.unusedSimpArgs false
namespace Go.Proofs.Ytbphhdmnfepbnaa.Lab
open Go.RowKit
def Ins39Post (m : List Lb) (i : Nat) (x : Lb) (B : Nat) (w : World) (e : Ending) (w' : World) : Prop := ∃ v', e = .returned v' ∧ Own5 w' B v' (insL m i x) ∧ Below B w w'
theorem insL_end (m : List Lb) (x : Lb) : insL m m.length x = m ++ [x] := by
  unfold insL
  rw [List.take_of_length_le (Nat.le_refl _), List.drop_of_length_le (Nat.le_refl _)]
theorem row_two {w : World} {vb : Nat} {x : Lb} (h : w.heap[vb]? = some (.cells #[.string x.n, .string x.v] 29 (0, 0))) : ∀ j u, [Value.string x.n, .string x.v][j]? = some u → w.cell? ((⟨vb, 0, none⟩ : Addr).add j) = some u := fun j u hj => by
  rw [add_lit, Nat.zero_add, cell_row (cur := [.string x.n, .string x.v]) h]
  exact hj
set_option maxRecDepth 100000 in
set_option maxHeartbeats 4000000 in
theorem insert_end (m : List Lb) (hm : m.length ≤ 100000) (x : Lb) (A : Option Addr) (cap B vb : Nat) (w : World) (hO : Own5 w B (.slice A m.length cap) m) (hB : B ≤ w.heap.size)
    (hvb : w.heap[vb]? = some (.cells #[.string x.n, .string x.v] 29 (0, 0))) (hsz : vb < w.heap.size) :
    Calls Try.prog 39 #[.slice A m.length cap, .int .i64 m.length, .slice (some ⟨vb, 0, none⟩) 1 1] w (Ins39Post m m.length x B w) := by
  obtain ⟨i0, hi, hz0, hz1, hz2⟩ := info_parts info29
  have hcases := hO.2
  have HO := Lib.hid hO
  have HV := Lib.hid (row_two hvb)
  have HB := Lib.hid hB
  have HS := Lib.hid hsz
  have FIN : Hid (∀ v' w', w'.ownsRow B 29 2 v' (m.length + 1) (cellsL m ++ [.string x.n, .string x.v]) → w.grownBy w' (Value.slice A m.length cap).ownBlock → Own5 w' B v' (insL m m.length x) ∧ Below B w w') := fun v' w' ho hg =>
    ⟨by rw [insL_end]; exact own5_snoc ho, (Below.refl B w).grown hg hB (fun g e => (World.ownsRow.lt hO g e).1)⟩
  rcases hcases with ⟨hv, h0⟩ | ⟨g, cap', cur, hv, hBg, hgc, hnc, hcm, hcs, hct⟩
  · injection hv with e1 e2 e3
    subst e1 e3
    obtain rfl := List.eq_nil_of_length_eq_zero h0
    clear hO hB hvb hsz e2 h0
    go_enter Try.func39, Try.ntmps39
    go_wp2_with (at_builtin; refine wpList_append_own _ rfl (.tmp 23) (.tmp 24) 22 rfl B 29 i0 _ 2 32 Try.underlying22 hi hz0 hz1 hz2 rfl (by decide) _ _ _ rfl HO.out ⟨vb, 0, none⟩ 1 1 [.string x.n, .string x.v] rfl rfl HV.out (by simp [Value.oneCell']) (by simp only [maxLen]; omega) (by omega) HB.out ?_; intro v5 w5 ho hg _; have F := Lib.hid (FIN.out _ _ ho hg); clear ho hg)
    go_ret
    exact ⟨_, rfl, F.out⟩
  · injection hv with e1 e2 e3
    subst e1 e3
    clear hO hB hvb hsz hgc hcs hct
    unfold maxLen at hcm
    have hb1 : (m.length : Int) ≤ (m.length : Int) := by omega
    go_enter Try.func39, Try.ntmps39
    go_wp2_with (at_builtin; refine wpList_append_own _ rfl (.tmp 23) (.tmp 24) 22 rfl B 29 i0 _ 2 32 Try.underlying22 hi hz0 hz1 hz2 rfl (by decide) _ _ _ rfl HO.out ⟨vb, 0, none⟩ 1 1 [.string x.n, .string x.v] rfl rfl HV.out (by simp [Value.oneCell']) (by simp only [maxLen]; omega) (by omega) HB.out ?_; intro v5 w5 ho hg _; have F := Lib.hid (FIN.out _ _ ho hg); clear ho hg)
    all_goals go_ret
    all_goals exact ⟨_, rfl, F.out⟩
theorem insert_any (m : List Lb) (hm : m.length ≤ 100000) (x : Lb) (i : Nat) (hi : i ≤ m.length) (A : Option Addr) (cap B vb : Nat) (w : World) (hO : Own5 w B (.slice A m.length cap) m) (hB : B ≤ w.heap.size)
    (hvb : w.heap[vb]? = some (.cells #[.string x.n, .string x.v] 29 (0, 0))) (hsz : vb < w.heap.size) (hne : ∀ g, (Value.slice A m.length cap).ownBlock = some g → vb ≠ g) :
    Calls Try.prog 39 #[.slice A m.length cap, .int .i64 i, .slice (some ⟨vb, 0, none⟩) 1 1] w (Ins39Post m i x B w) := by
  rcases Nat.eq_or_lt_of_le hi with rfl | hlt
  · exact insert_end m hm x A cap B vb w hO hB hvb hsz
  · rcases hO.2 with ⟨hv, h0⟩ | ⟨g, cap', cur, hv, hBg, hgc, hnc, hcm, hcs, hct⟩
    · omega
    · injection hv with e1 e2 e3
      subst e1 e3
      have hcl := cellsL_length m
      have hpl : ((cellsL m).take (i * 2)).length = i * 2 := by rw [List.length_take, hcl]; omega
      have hsl : ((cellsL m).drop (i * 2)).length = (m.length - i) * 2 := by rw [List.length_drop, hcl]; omega
      have h1 : ∀ v ∈ (cellsL m).drop (i * 2), v.oneCell' = true := one_ofd (cellsL_one' m) _
      have h2 : ∀ v ∈ [Value.string x.n, .string x.v], v.oneCell' = true := by simp [Value.oneCell']
      have eL : ∀ W v', W.ownsRow B 29 2 v' (m.length + 1) ((cellsL m).take (i * 2) ++ ([.string x.n, .string x.v] ++ (cellsL m).drop (i * 2))) → Own5 W B v' (insL m i x) := fun W v' h => by
        unfold Own5
        rw [insL_len _ hi, insL_cells, List.append_assoc]
        exact h
      by_cases hroom : m.length + 1 ≤ cap
      · have hcur : cur.toList = (cellsL m).take (i * 2) ++ ((cellsL m).drop (i * 2) ++ cur.toList.drop (m.length * 2)) := by
          rw [← List.append_assoc, List.take_append_drop, ← hct, List.take_append_drop]
        have hql : (cur.toList.drop (m.length * 2)).length = cap * 2 - m.length * 2 := by rw [List.length_drop, Array.length_toList, hcs]
        refine (insert_room g cap m.length i vb cur.toList _ _ [.string x.n, .string x.v] w hlt hroom (by omega) hcm hgc (by rw [Array.length_toList, hcs]) hpl hsl _ hcur rfl h1 h2 hvb (hne g rfl)).mono ?_
        rintro e w' ⟨rfl, rfl⟩
        have hcells : over (over cur.toList ((i + 1) * 2) ((cellsL m).drop (i * 2))) (i * 2) [.string x.n, .string x.v] = (cellsL m).take (i * 2) ++ ([.string x.n, .string x.v] ++ ((cellsL m).drop (i * 2) ++ ((((cellsL m).drop (i * 2) ++ cur.toList.drop (m.length * 2)).drop 2).drop ((cellsL m).drop (i * 2)).length))) := by
          have h := room_cells ((cellsL m).take (i * 2)) (((cellsL m).drop (i * 2) ++ cur.toList.drop (m.length * 2)).take 2) ((cellsL m).drop (i * 2)) (((cellsL m).drop (i * 2) ++ cur.toList.drop (m.length * 2)).drop 2) [.string x.n, .string x.v]
            (by simp only [List.length_take, List.length_append, List.length_drop, hcl, Array.length_toList, hcs, List.length_cons, List.length_nil]; omega) (by simp only [List.length_append, List.length_drop, hcl, Array.length_toList, hcs]; omega) (cur.toList.drop (m.length * 2)) (List.take_append_drop 2 _).symm
          rw [← hcur, hpl] at h
          rw [show (i + 1) * 2 = i * 2 + [Value.string x.n, .string x.v].length by simp only [List.length_cons, List.length_nil]; omega]
          exact h
        have hb : Below B w ((w.drew.setRow g (over cur.toList ((i + 1) * 2) ((cellsL m).drop (i * 2))).toArray).setRow g (over (over cur.toList ((i + 1) * 2) ((cellsL m).drop (i * 2))) (i * 2) [.string x.n, .string x.v]).toArray) := below_setRow (below_setRow (Below.refl B w).drew hBg _) hBg _
        have hlen : (over (over cur.toList ((i + 1) * 2) ((cellsL m).drop (i * 2))) (i * 2) [.string x.n, .string x.v]).length = cap * 2 := by
          have hcl2 : cur.toList.length = cap * 2 := (Array.length_toList (xs := cur)).trans hcs
          have hf1 : (i + 1) * 2 + ((cellsL m).drop (i * 2)).length ≤ cur.toList.length := by rw [hsl, hcl2]; omega
          have hL1 := over_len cur.toList ((i + 1) * 2) ((cellsL m).drop (i * 2)) hf1
          rw [hcl2] at hL1
          have hf2 : i * 2 + [Value.string x.n, Value.string x.v].length ≤ (over cur.toList ((i + 1) * 2) ((cellsL m).drop (i * 2))).length := by rw [hL1]; simp only [List.length_cons, List.length_nil]; omega
          exact (over_len _ _ _ hf2).trans hL1
        have hh : ((w.drew.setRow g (over cur.toList ((i + 1) * 2) ((cellsL m).drop (i * 2))).toArray).setRow g (over (over cur.toList ((i + 1) * 2) ((cellsL m).drop (i * 2))) (i * 2) [.string x.n, .string x.v]).toArray).heap[g]? = some (.cells (over (over cur.toList ((i + 1) * 2) ((cellsL m).drop (i * 2))) (i * 2) [.string x.n, .string x.v]).toArray 29 (0, 0)) :=
          setRow_heap _ g _ _ 29 _ (setRow_heap _ g _ _ 29 _ hgc)
        refine ⟨_, rfl, eL _ _ ⟨by simp only [List.length_append, List.length_cons, List.length_nil]; omega, .inr ⟨g, cap, _, rfl, hBg, hh, hroom, hcm, by rw [List.size_toArray, hlen], ?_⟩⟩, hb⟩
        show List.take _ (over _ _ _) = _
        rw [hcells, ← List.append_assoc, ← List.append_assoc, show (m.length + 1) * 2 = ((cellsL m).take (i * 2) ++ [Value.string x.n, Value.string x.v] ++ (cellsL m).drop (i * 2)).length by simp only [List.length_append, List.length_cons, List.length_nil]; omega, List.take_left, List.append_assoc]
      · obtain rfl : cap = m.length := by omega
        refine (insert_grow g m.length i vb ((cellsL m).take (i * 2)) ((cellsL m).drop (i * 2)) [.string x.n, .string x.v] w hlt (by omega) (fun j v hj => by
          rw [List.take_append_drop] at hj
          have h := World.ownsRow.cells (g := g) hO rfl j v hj
          rw [add_lit, Nat.zero_add] at h
          exact h) hpl hsl rfl h1 h2 hvb).mono ?_
        rintro e w' ⟨v', rfl, ho, hb⟩
        have ho2 : Own5 w' w.heap.size v' (insL m i x) := by
          unfold Own5
          rw [insL_len _ hi, insL_cells, List.append_assoc]
          exact ho
        exact ⟨v', rfl, ho2.more hB, hb.mono hB⟩
end Go.Proofs.Ytbphhdmnfepbnaa.Lab
