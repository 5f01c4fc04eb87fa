/- Layer 5: slices.Insert at labels, where there is room. -/
import Derived.Test.YtbphhdmnfepbnaaSA
set_option linter.unusedVariables false
set_option linter.unusedSimpArgs false
namespace Go.Proofs.Ytbphhdmnfepbnaa.Lab
open Go.RowKit Go.Shelf
theorem cell_row {w : World} {g : Nat} {cur : List Value} {t : TypeId} {fr : Nat × Nat} (h : w.heap[g]? = some (.cells cur.toArray t fr)) (j : Nat) : w.cell? ⟨g, j, none⟩ = cur[j]? := by
  simp [World.cell?, h]
/-- The cells behind an insertion in place. -/
theorem room_cells (p u s v ab : List Value) (h : u.length = ab.length) (hs : s.length ≤ v.length) (q : List Value) (hq : s ++ q = u ++ v) : over (over (p ++ (s ++ q)) (p.length + ab.length) s) p.length ab = p ++ (ab ++ (s ++ v.drop s.length)) := by
  have e : over (p ++ (s ++ q)) (p.length + ab.length) s = p ++ (u ++ (s ++ v.drop s.length)) := by
    rw [hq, ← List.append_assoc, ← h, ← List.length_append, over_at, List.append_assoc]
  rw [e, over_at, ← h, List.drop_left]
set_option maxRecDepth 100000 in
set_option maxHeartbeats 4000000 in
theorem insert_room (g cap n i vb : Nat) (cur : List Value) (p s ab : List Value) (w : World) (hi : i < n) (hroom : n + 1 ≤ cap) (hn : n ≤ 1000000) (hcap : cap ≤ maxLen)
    (hg : w.heap[g]? = some (.cells cur.toArray 29 (0, 0))) (hcs : cur.length = cap * 2) (hp : p.length = i * 2) (hs : s.length = (n - i) * 2) (q : List Value) (hc : cur = p ++ (s ++ q))
    (hab : ab.length = 2) (h1 : ∀ v ∈ s, v.oneCell' = true) (h2 : ∀ v ∈ ab, v.oneCell' = true) (hvb : w.heap[vb]? = some (.cells ab.toArray 29 (0, 0))) (hne : vb ≠ g) :
    Calls Try.prog 39 #[.slice (some ⟨g, 0, none⟩) n cap, .int .i64 i, .slice (some ⟨vb, 0, none⟩) 1 1] w fun e w' =>
      e = .returned (.slice (some ⟨g, 0, none⟩) (n + 1) cap) ∧ w' = (w.drew.setRow g (over cur ((i + 1) * 2) s).toArray).setRow g (over (over cur ((i + 1) * 2) s) (i * 2) ab).toArray := by
  unfold maxLen at hcap
  have hz2 : ¬ ((i : Int) = (n : Int)) := by omega
  have hov := fun la lb ca cb o => over_apps w vb g la lb ca cb o _ _ hvb hg (by rw [List.size_toArray, hcs]; omega) hne
  have hfit1 : (i + 1) * 2 + s.length ≤ cur.length := by rw [hs, hcs]; omega
  have hcp1 : ∀ ty, (Builtin.copy_ #[22, 22] ty #[.slice (some ⟨g, (i + 1) * 2, none⟩) (n - i) (cap - (i + 1)), .slice (some ⟨g, i * 2, none⟩) (n + 1 - i) (cap - i)]).run Try.prog w.drew = .ok (goInt ((n - i : Nat) : Int)) (w.drew.setRow g (over cur ((i + 1) * 2) s).toArray) := fun ty => by
    have h := run_copy_lab w.drew ty g ((i + 1) * 2) (n - i) (cap - (i + 1)) ⟨g, i * 2, none⟩ (n + 1 - i) (cap - i) (n - i) cur s hg (by simp only [Nat.min_def]; split <;> omega) hs.symm (fun j v hj => by
      rw [add_lit, show w.drew.cell? ⟨g, i * 2 + j, none⟩ = cur[i * 2 + j]? from cell_row hg _, hc, List.getElem?_append_right (by omega), show i * 2 + j - p.length = j by omega, List.getElem?_append_left (by have := (List.getElem?_eq_some_iff.1 hj).1; omega)]
      exact hj) hfit1 h1
    exact h
  obtain ⟨C1, hC1⟩ : ∃ C1, over cur ((i + 1) * 2) s = C1 := ⟨_, rfl⟩
  have hl1 : C1.length = cap * 2 := by rw [← hC1, over_len _ _ _ hfit1, hcs]
  rw [hC1] at hcp1 ⊢
  have hg1 : (w.drew.setRow g C1.toArray).heap[g]? = some (.cells C1.toArray 29 (0, 0)) := setRow_heap _ g _ _ 29 _ hg
  have hv1 : (w.drew.setRow g C1.toArray).heap[vb]? = some (.cells ab.toArray 29 (0, 0)) := by rw [setRow_other _ g vb _ hne]; exact hvb
  have hcp2 : ∀ ty, (Builtin.copy_ #[22, 22] ty #[.slice (some ⟨g, i * 2, none⟩) (n + 1 - i) (cap - i), .slice (some ⟨vb, 0, none⟩) 1 1]).run Try.prog (w.drew.setRow g C1.toArray) = .ok (goInt 1) ((w.drew.setRow g C1.toArray).setRow g (over C1 (i * 2) ab).toArray) := fun ty => by
    have h := run_copy_lab (w.drew.setRow g C1.toArray) ty g (i * 2) (n + 1 - i) (cap - i) ⟨vb, 0, none⟩ 1 1 1 C1 ab hg1 (by simp only [Nat.min_def]; split <;> omega) (by omega) (fun j v hj => by
      rw [add_lit, Nat.zero_add, cell_row hv1]
      exact hj) (by omega) h2
    exact h
  have hw1 : IntKind.i64.wrap ((i : Int) + 1) = (i : Int) + 1 := IntWalk.i64_in _ (by omega)
  have hw2 : IntKind.i64.wrap ((n : Int) + 1) = (n : Int) + 1 := IntWalk.i64_in _ (by omega)
  have hb1 : (0 : Int) ≤ (i : Int) + 1 := by omega
  have hb2 : ¬ (cap = i + 1) := by omega
  have hb3 : (i : Int) ≤ (n : Int) := by omega
  have hb5 : (i : Int) ≤ (n : Int) + 1 := by omega
  have hb4 : ¬ (cap = i) := by omega
  have ht1 : ((i : Int) + 1).toNat = i + 1 := by omega
  have ht2 : ((n : Int) + 1).toNat = n + 1 := by omega
  have mixed : Try.prog.follows .mixedOrders = true := by kernel_rfl
  clear hc hcs hp hs hfit1 hC1 hg hvb hg1 hv1 h1 h2 hl1
  go_enter Try.func39, Try.ntmps39
  go_wp2_with (simp only [hov])
  go_region_law_o (refine Go.Proofs.step_copy_runI rfl _ _ 22 22 rfl (.slice (some ⟨g, (i + 1) * 2, none⟩) (n - i) (cap - (i + 1))) (.slice (some ⟨g, i * 2, none⟩) (n + 1 - i) (cap - i)) (by simp [Act.eval, Act.put]) (by simp [Act.eval, Act.put]) (hcp1 3) ?_)
  go_wp2_with (at_builtin; refine Go.Proofs.wpList_copy_runI _ rfl _ _ 22 22 rfl _ _ rfl rfl (hcp2 _) ?_)
  go_ret
  exact ⟨rfl, rfl⟩
end Go.Proofs.Ytbphhdmnfepbnaa.Lab
