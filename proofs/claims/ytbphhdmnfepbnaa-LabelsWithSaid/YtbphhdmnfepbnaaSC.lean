/- Layer 5: slices.Insert at labels, where there is no room. -/
import Derived.Laws.CopyOwn
import Derived.Test.YtbphhdmnfepbnaaSB
set_option linter.unusedVariables false
set_option linter.unusedSimpArgs false
namespace Go.Proofs.Ytbphhdmnfepbnaa.Lab
open Go.RowKit Go.Shelf
theorem zero_len (n : Nat) : (Builtin.zeroCells (Value.agg #[.string ⟨#[]⟩, .string ⟨#[]⟩]).cells n).size = n * 2 := by
  simp [Builtin.zeroCells, Value.cells]
/-- The cells behind an insertion into a new row. -/
theorem grow_cells (p zs s ab : List Value) (h : ab.length + s.length ≤ zs.length) : ∃ r, over (over (p ++ zs) p.length ab) (p.length + ab.length) s = p ++ (ab ++ (s ++ r)) := by
  refine ⟨(zs.drop ab.length).drop s.length, ?_⟩
  rw [over_at, ← List.append_assoc, ← List.length_append, over_at, List.append_assoc]
set_option maxRecDepth 100000 in
set_option maxHeartbeats 4000000 in
theorem insert_grow (g n i vb : Nat) (p s ab : List Value) (w : World) (hi : i < n) (hn : n ≤ 1000000)
    (hg : ∀ j v, (p ++ s)[j]? = some v → w.cell? ⟨g, j, none⟩ = some v) (hp : p.length = i * 2) (hs : s.length = (n - i) * 2)
    (hab : ab.length = 2) (h1 : ∀ v ∈ s, v.oneCell' = true) (h2 : ∀ v ∈ ab, v.oneCell' = true) (hvb : w.heap[vb]? = some (.cells ab.toArray 29 (0, 0))) :
    Calls Try.prog 39 #[.slice (some ⟨g, 0, none⟩) n n, .int .i64 i, .slice (some ⟨vb, 0, none⟩) 1 1] w fun e w' =>
      ∃ v, e = .returned v ∧ w'.ownsRow w.heap.size 29 2 v (n + 1) (p ++ (ab ++ s)) ∧ Below w.heap.size w w' := by
  obtain ⟨i0, hi0, hz0, hz1, hz2⟩ := info_parts info29
  have hgw : g < w.heap.size := World.block_lt_of_cell? _ _ (hg 0 _ (List.getElem?_eq_getElem (by rw [List.length_append]; omega)))
  have hvw : vb < w.heap.size := (Array.getElem?_eq_some_iff.1 hvb).1
  obtain ⟨N, hN⟩ : ∃ N, w.heap.size = N := ⟨_, rfl⟩
  have hold : (Builtin.firstCells i0.size i (.slice (some ⟨g, 0, none⟩) i n)).run Try.prog w.drew = .ok p.toArray w.drew := by
    show (loadCells ⟨g, 0, none⟩ (i * i0.size)).run Try.prog w.drew = _
    rw [hz1, ← hp]
    exact run_loadCells_list (P := Try.prog) w.drew ⟨g, 0, none⟩ p (fun j v hj => by
      rw [add_lit, Nat.zero_add]
      exact hg j v (by rw [List.getElem?_append_left (List.getElem?_eq_some_iff.1 hj).1]; exact hj))
  obtain ⟨G, hG⟩ : ∃ G, grownCap w (n + 1) n 29 = G := ⟨_, rfl⟩
  have hG1 : n + 1 ≤ G := by rw [← hG]; exact grownCap_ge w _ _ _
  have hG2 : G ≤ maxLen := by rw [← hG]; exact grownCap_le_maxLen w (n + 1) n 29 (by unfold maxLen; omega)
  obtain ⟨zs, hzs⟩ : ∃ zs : List Value, zs = (Builtin.zeroCells (Value.agg #[.string ⟨#[]⟩, .string ⟨#[]⟩]).cells (n + 1 - i) ++ Builtin.zeroCells (Value.agg #[.string ⟨#[]⟩, .string ⟨#[]⟩]).cells (G - (n + 1))).toList := ⟨_, rfl⟩
  have hzl : zs.length = (G - i) * 2 := by
    rw [hzs, Array.length_toList, Array.size_append, zero_len, zero_len]
    omega
  obtain ⟨W1, hW1⟩ : ∃ W1, w.drew.alloc (.cells (p ++ zs).toArray 29) = W1 := ⟨_, rfl⟩
  have hrz : ∀ ty, (Builtin.append_ #[22, 3] ty #[.slice (some ⟨g, 0, none⟩) i n, .int .i64 ((n : Int) + 1 - (i : Int))]).run Try.prog w = .ok (.slice (some ⟨N, 0, none⟩) (n + 1) G) W1 := fun ty => by
    have h := Lib.run_append_grow_zeros w 22 3 ty 29 i0 _ .i64 .i64 Try.underlying22 Try.underlying3 hi0 hz0 (some ⟨g, 0, none⟩) i n p hold (n + 1 - i) (by omega) (by rw [hz1]; omega) (by omega) (by omega) (by rw [hz2]; omega) (by rw [hz2, show i + (n + 1 - i) = n + 1 by omega]; exact growslice_fits (by omega) (by omega))
    rw [show i + (n + 1 - i) = n + 1 by omega, hG] at h
    rw [show (n : Int) + 1 - (i : Int) = ((n + 1 - i : Nat) : Int) by omega, h, ← hW1, hN, hzs]
    congr 3
    apply Array.ext'
    simp
  have hW1g : W1.heap[N]? = some (.cells (p ++ zs).toArray 29 (0, 0)) := by rw [← hW1, ← hN]; exact World.alloc_heap_new w.drew _
  have hW1b : Below N w W1 := by rw [← hW1]; exact ((Below.refl N w).drew).alloc (Nat.le_of_eq hN.symm) _
  obtain ⟨C1, hC1⟩ : ∃ C1, over (p ++ zs) (i * 2) ab = C1 := ⟨_, rfl⟩
  have hl1 : C1.length = G * 2 := by rw [← hC1, over_len _ _ _ (by rw [List.length_append]; omega), List.length_append]; omega
  obtain ⟨W2, hW2⟩ : ∃ W2, W1.setRow N C1.toArray = W2 := ⟨_, rfl⟩
  have hcpA : ∀ ty, (Builtin.copy_ #[22, 22] ty #[.slice (some ⟨N, i * 2, none⟩) (n + 1 - i) (G - i), .slice (some ⟨vb, 0, none⟩) 1 1]).run Try.prog W1 = .ok (goInt 1) W2 := fun ty => by
    have h := run_copy_lab W1 ty N (i * 2) (n + 1 - i) (G - i) ⟨vb, 0, none⟩ 1 1 1 (p ++ zs) ab hW1g (by simp only [Nat.min_def]; split <;> omega) (by omega) (fun j v hj => by
      rw [add_lit, Nat.zero_add, cell_row ((hW1b.block vb (by omega)).trans hvb)]
      exact hj) (by rw [List.length_append]; omega) h2
    rw [hC1, hW2] at h
    exact h
  have hW2g : W2.heap[N]? = some (.cells C1.toArray 29 (0, 0)) := by rw [← hW2]; exact setRow_heap _ N _ _ 29 _ hW1g
  have hW2b : Below N w W2 := by rw [← hW2]; exact below_setRow hW1b (Nat.le_refl _) _
  obtain ⟨C2, hC2⟩ : ∃ C2, over C1 ((i + 1) * 2) s = C2 := ⟨_, rfl⟩
  have hl2 : C2.length = G * 2 := by rw [← hC2, over_len _ _ _ (by rw [hl1]; omega), hl1]
  obtain ⟨W3, hW3⟩ : ∃ W3, W2.drew.setRow N C2.toArray = W3 := ⟨_, rfl⟩
  have hcpB : ∀ ty, (Builtin.copy_ #[22, 22] ty #[.slice (some ⟨N, (i + 1) * 2, none⟩) (n - i) (G - (i + 1)), .slice (some ⟨g, i * 2, none⟩) (n - i) (n - i)]).run Try.prog W2.drew = .ok (goInt ((n - i : Nat) : Int)) W3 := fun ty => by
    have h := run_copy_lab W2.drew ty N ((i + 1) * 2) (n - i) (G - (i + 1)) ⟨g, i * 2, none⟩ (n - i) (n - i) (n - i) C1 s hW2g (by simp only [Nat.min_def]; split <;> omega) hs.symm (fun j v hj => by
      rw [add_lit, show W2.drew.cell? ⟨g, i * 2 + j, none⟩ = w.cell? ⟨g, i * 2 + j, none⟩ from hW2b.cell (by show g < N; omega)]
      refine hg _ v ?_
      rw [List.getElem?_append_right (by omega), show i * 2 + j - p.length = j by omega]
      exact hj) (by rw [hl1]; omega) h1
    rw [hC2, hW3] at h
    exact h
  have hW3g : W3.heap[N]? = some (.cells C2.toArray 29 (0, 0)) := by rw [← hW3]; exact setRow_heap _ N _ _ 29 _ hW2g
  have hW3b : Below N w W3 := by rw [← hW3]; exact below_setRow hW2b.drew (Nat.le_refl _) _
  have FIN : Hid (W3.ownsRow N 29 2 (.slice (some ⟨N, 0, none⟩) (n + 1) G) (n + 1) (p ++ (ab ++ s)) ∧ Below N w W3) := by
    obtain ⟨r, hr⟩ := grow_cells p zs s ab (by omega)
    have e : C2 = p ++ (ab ++ (s ++ r)) := by rw [← hr, ← hC2, ← hC1, hp, hab, show (i + 1) * 2 = i * 2 + 2 by omega]
    refine ⟨⟨by simp only [List.length_append]; omega, .inr ⟨N, G, C2.toArray, rfl, Nat.le_refl _, hW3g, hG1, hG2, by rw [List.size_toArray, hl2], ?_⟩⟩, hW3b⟩
    rw [e]
    show (p ++ (ab ++ (s ++ r))).take _ = _
    rw [← List.append_assoc, ← List.append_assoc, show (n + 1) * 2 = (p ++ ab ++ s).length by simp only [List.length_append]; omega, List.take_left, List.append_assoc]
  have hz2' : ¬ ((i : Int) = (n : Int)) := by omega
  have hw2 : IntKind.i64.wrap ((n : Int) + 1) = (n : Int) + 1 := IntWalk.i64_in _ (by omega)
  have hw3 : IntKind.i64.wrap ((n : Int) + 1 - (i : Int)) = (n : Int) + 1 - (i : Int) := IntWalk.i64_in _ (by omega)
  have hw1 : IntKind.i64.wrap ((i : Int) + 1) = (i : Int) + 1 := IntWalk.i64_in _ (by omega)
  have hb1 : (0 : Int) ≤ (i : Int) + 1 := by omega
  have hb2 : ¬ (G = i + 1) := by omega
  have hb3 : (i : Int) ≤ (n : Int) := by omega
  have hb4 : ¬ (G = i) := by omega
  have hb5 : (i : Int) ≤ (n : Int) + 1 := by omega
  have hb6 : ¬ (n = i) := by omega
  have ht1 : ((i : Int) + 1).toNat = i + 1 := by omega
  have hb7 : (n : Int) < (n : Int) + 1 := by omega
  have mixed : Try.prog.follows .mixedOrders = true := by kernel_rfl
  clear hW3g hW3b hW3 hl2 hC2 hW2g hW2b hW2 hl1 hC1 hW1g hW1b hW1 hzl hzs hG hold hg hvb hp hs h1 h2 hG2 hi0 hz0 hz1 hz2
  rw [hN]
  go_enter Try.func39, Try.ntmps39
  go_wp2_with (first
    | (at_builtin; refine Lib.wpList_append_run _ rfl _ _ _ _ rfl _ _ rfl rfl _ _ (hrz _) ?_)
    | (at_builtin; refine Go.Proofs.wpList_copy_runI _ rfl _ _ 22 22 rfl _ _ rfl rfl (hcpA _) ?_))
  go_region_law_o (refine Go.Proofs.step_copy_runI rfl _ _ 22 22 rfl (.slice (some ⟨N, (i + 1) * 2, none⟩) (n - i) (G - (i + 1))) (.slice (some ⟨g, i * 2, none⟩) (n - i) (n - i)) (by simp [Act.eval, Act.put]) (by simp [Act.eval, Act.put]) (hcpB 3) ?_)
  go_wp2
  go_ret
  exact ⟨_, rfl, FIN.out⟩
end Go.Proofs.Ytbphhdmnfepbnaa.Lab
