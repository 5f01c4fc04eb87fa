/- Layer 10: the walk of Repeats. -/
import Derived.Test.YtpinmmmbmhfmiaaDtQ
set_option linter.unusedVariables false
set_option linter.unusedSimpArgs false
namespace Go.Proofs.Ytpinmmmbmhfmiaa.Dt
open Go.RowKit Go.Sort Dc
theorem one_cell {w : World} {b : Nat} {x : Value} (h : w.cell? ⟨b, 0, none⟩ = some x) : ∀ j u, [x][j]? = some u → w.cell? ((⟨b, 0, none⟩ : Addr).add j) = some u := fun j u hj => by
  match j, hj with
  | 0, hj => simp at hj; subst hj; rw [add_lit]; exact h
theorem cell_new1 (w : World) (x : Value) (t : TypeId) : (w.alloc (.cells #[x] t)).cell? ⟨w.heap.size, 0, none⟩ = some x := by
  have h := heap_alloc_new w (.cells #[x] t)
  simp only [World.cell?, h]
  rfl
theorem rep_facts {l : List BA} {x : BA} (hl : l.length ≤ 40) (h : l.getLast? = some x) : ∃ (t1 t2 : BA) (ec : Int), encO l = (t1.data.toList, ec) ∧ encO (l ++ [x]) = (t2.data.toList, ec) ∧ t1.size ≤ t2.size ∧ t2.size ≤ t1.size + 2 ∧ t1.size ≤ 2000000 := by
  have hm : x ∈ l := List.mem_of_getLast? h
  by_cases hs : ∀ y ∈ l, y.size ≤ 1000
  · have h1 := enc_small (by omega) hs
    have h2 := enc_small (l := l ++ [x]) (by rw [List.length_append, List.length_singleton]; omega) fun y hy => by
      rcases List.mem_append.1 hy with hy | hy
      · exact hs y hy
      · rw [List.mem_singleton] at hy; rw [hy]; exact hs x hm
    have h3 := rep_len h
    have h4 := (encO_inv h1).2.1
    refine ⟨⟨(encL l).toArray⟩, ⟨(encL (l ++ [x])).toArray⟩, 0, by rw [h1], by rw [h2], ?_⟩
    rw [mk_size', mk_size']
    omega
  · have h1 := encO_bad (l := l) fun q => hs q.2
    have h2 := encO_bad (l := l ++ [x]) fun q => hs fun y hy => q.2 y (List.mem_append_left _ hy)
    exact ⟨⟨#[]⟩, ⟨#[]⟩, 4, h1, h2, Nat.le_refl _, Nat.le_add_right _ _, Nat.zero_le _⟩
set_option maxHeartbeats 2000000 in
set_option maxRecDepth 100000 in
theorem repeats_walk (l : List BA) (hsz : ∀ x ∈ l, x.size ≤ 140737488351232) (sv : Value) (w : World) (hI : Strs w.heap.size w sv l) : Calls Try.prog 10 #[sv] w fun e w' => e = .returned (.bool true) ∧ Below w.heap.size w w' := by
  obtain ⟨i0, hi, hz0, hz1, hz2⟩ := info_parts infoS
  have B0 := Lib.hid (Below.refl w.heap.size w)
  have HG := Lib.hid (great_any l hsz sv w hI.at)
  have HI := Lib.hid hI
  have HSZ := Lib.hid hsz
  obtain ⟨a, cap, hae, hcx⟩ := hI.at
  subst hae
  have HX := Lib.hid hcx
  clear hsz hI hcx
  go_enter Try.func10, Try.ntmps10
  go_wp2_with fail
  refine HG.out.mono ?_
  rintro e w1 ⟨⟨b, rfl, hg⟩, rfl⟩
  clear HG
  cases b with
  | true =>
    go_wp2_with fail
    refine (awake_any _).mono ?_
    rintro e wz ⟨rfl, hb⟩
    have BZ := Lib.hid (B0.out.trans (hb.mono B0.out.size))
    clear hb
    go_wp2
    go_ret
    exact ⟨rfl, BZ.out⟩
  | false =>
    have hl := (hg rfl).1
    clear hg
    by_cases h0 : l.length = 0
    · have h0i : (l.length : Int) = 0 := by omega
      go_wp2_with fail
      refine (awake_any _).mono ?_
      rintro e wz ⟨rfl, hb⟩
      have BZ := Lib.hid (B0.out.trans (hb.mono B0.out.size))
      clear hb
      go_wp2
      go_ret
      exact ⟨rfl, BZ.out⟩
    · have h0i : ¬ ((l.length : Int) = 0) := by omega
      obtain ⟨k, hk⟩ : ∃ k, k + 1 = l.length := ⟨l.length - 1, by omega⟩
      have hwk : IntKind.i64.wrap ((l.length : Int) - 1) = (k : Int) := by rw [IntWalk.i64_in _ (by omega)]; omega
      have hkl : k < l.length := by omega
      have hki : (k : Int) < l.length := by omega
      obtain ⟨b, o, rfl, hbl, hc⟩ := HX.out (by omega)
      have hcell := hc k hkl
      obtain ⟨x, hx⟩ : ∃ x, l[k]?.getD ⟨#[]⟩ = x := ⟨_, rfl⟩
      rw [hx] at hcell
      have hlast : l.getLast? = some x := by rw [List.getLast?_eq_getElem?, show l.length - 1 = k by omega, List.getElem?_eq_getElem hkl, ← hx, at_get hkl]
      have hxm := List.mem_of_getLast? hlast
      obtain ⟨t1, t2, ec, e1, e2, ht1, ht2, ht3⟩ := rep_facts hl hlast
      have HSX : Hid (∀ y ∈ l ++ [x], y.size ≤ 140737488351232) := Lib.hid fun y hy => by
        rcases List.mem_append.1 hy with hy | hy
        · exact HSZ.out y hy
        · rw [List.mem_singleton] at hy; rw [hy]; exact HSZ.out x hxm
      have HE := Lib.hid (Encode_any l (by omega) HSZ.out _ w HI.out.at)
      unfold EncQ at HE
      rw [e1] at HE
      dsimp only at HE
      rw [mk_data] at HE
      have E2 := Lib.hid e2
      have HCL := Lib.hid hcell
      have hwt : IntKind.i64.wrap ((t1.size : Int) + 2) = (t1.size : Int) + 2 := by rw [IntWalk.i64_in _ (by omega)]
      have ht1i : (t1.size : Int) ≤ t2.size := by omega
      have ht2i : (t2.size : Int) ≤ (t1.size : Int) + 2 := by omega
      clear hc hx hlast hxm e1 e2 hcell HX
      go_wp2_with fail
      refine (HE.out).mono ?_
      rintro e w1 ⟨rfl, hb⟩
      have B1 := Lib.hid (B0.out.trans (hb.mono B0.out.size))
      clear hb
      have HC := Lib.hid (clone_any l (by omega) _ w1.drew ((HI.out.onto B1.out).onto (Below.refl _ _).drew))
      have BA : Hid (Below w.heap.size w (w1.alloc (.cells #[.string x] 9)).drew) := Lib.hid (B1.out.alloc B1.out.size _).drew
      have hrow : (w1.alloc (.cells #[.string x] 9)).drew.cell? ⟨w1.heap.size, 0, none⟩ = some (.string x) := cell_new1 _ _ _
      have HD := Lib.hid (clone_any l (by omega) _ (w1.alloc (.cells #[.string x] 9)).drew (HI.out.onto BA.out))
      have hcell := (B1.out.cell (p := ⟨b, o + k, none⟩) hbl).trans HCL.out
      have hcell1 : w1.drew.cell? ⟨b, o + k, none⟩ = some (.string x) := hcell
      have hb1 : b < w1.heap.size := Nat.lt_of_lt_of_le hbl B1.out.size
      go_wp2
      go_region_law (first
        | (refine step_append_run (by rfl) (.tmp 22) (.tmp 29) 22 22 (by rfl) (.slice A2 l.length c2) (.slice (some ⟨w2.heap.size, 0, none⟩) 1 1) (by rfl) (by rfl) _ w4 hr4 ?_)
        | (refine step_append_run (by rfl) (.tmp 22) (.tmp 29) 22 22 (by rfl) (.slice A2b l.length c2b) (.slice (some ⟨w1.heap.size, 0, none⟩) 1 1) (by rfl) (by rfl) _ w4b hr4b ?_)
        | (go_simp; go_at_call 28; (with_reducible refine HC.out.mono ?_); rintro e w2 ⟨v2, rfl, ho2, hb2⟩; have B2 := Lib.hid (B1.out.drew.trans (hb2.mono B1.out.drew.size)); have hcell2 := (hb2.cell (p := ⟨b, o + k, none⟩) hb1).trans hcell1; obtain ⟨v4, w4, hr4, ho4, hg4, _⟩ := run_append_own (P := Try.prog) (w2.alloc (.cells #[.string x] 9)) w1.drew.heap.size 22 22 9 i0 (.string ⟨#[]⟩) 1 16 Try.underlying22 hi hz0 hz1 hz2 rfl (by decide) v2 l.length (sc l) (World.ownsRow.alloc ho2 _) ⟨w2.heap.size, 0, none⟩ 1 1 [.string x] rfl (cell_one_new _ _ _) (by simp [Value.oneCell']) (by unfold maxLen; omega) (by omega) (by have := hb2.size; simp at this ⊢; omega); obtain ⟨A2, c2, rfl⟩ := own_form ho2; obtain ⟨A4, c4, rfl⟩ := own_form ho4; have B4 := Lib.hid ((B2.out.alloc B2.out.size (.cells #[.string x] 9)).grown hg4 (by have := B2.out.size; simp; omega) (fun k hk => Nat.le_trans B1.out.drew.size (World.ownsRow.lt ho2 k hk).1)); have O4 : Hid (OwnS w1.drew.heap.size w4 (.slice A4 (l.length + 1) c4) (l ++ [x])) := Lib.hid (by unfold OwnS; rw [sc_snoc, List.length_append]; exact ho4); have HE2 := Lib.hid (Encode_any (l ++ [x]) (by rw [List.length_append, List.length_singleton]; omega) HSX.out _ w4 O4.out.strs.at); unfold EncQ at HE2; rw [E2.out] at HE2; dsimp only at HE2; rw [mk_data] at HE2)
        | (go_simp; go_at_call 28; (with_reducible refine HD.out.mono ?_); rintro e w2b ⟨v2b, rfl, ho2, hb2⟩; have B2 := Lib.hid (BA.out.trans (hb2.mono BA.out.size)); have hcell2 := (hb2.cell (p := ⟨w1.heap.size, 0, none⟩) (by simp)).trans hrow; obtain ⟨v4, w4b, hr4b, ho4, hg4, _⟩ := run_append_own (P := Try.prog) w2b (w1.alloc (.cells #[.string x] 9)).drew.heap.size 22 22 9 i0 (.string ⟨#[]⟩) 1 16 Try.underlying22 hi hz0 hz1 hz2 rfl (by decide) v2b l.length (sc l) ho2 ⟨w1.heap.size, 0, none⟩ 1 1 [.string x] rfl (one_cell hcell2) (by simp [Value.oneCell']) (by unfold maxLen; omega) (by omega) hb2.size; obtain ⟨A2b, c2b, rfl⟩ := own_form ho2; obtain ⟨A4, c4, rfl⟩ := own_form ho4; have B4 := Lib.hid (B2.out.grown hg4 B2.out.size (fun k hk => Nat.le_trans BA.out.size (World.ownsRow.lt ho2 k hk).1)); have O4 : Hid (OwnS (w1.alloc (.cells #[.string x] 9)).drew.heap.size w4b (.slice A4 (l.length + 1) c4) (l ++ [x])) := Lib.hid (by unfold OwnS; rw [sc_snoc, List.length_append]; exact ho4); have HE2 := Lib.hid (Encode_any (l ++ [x]) (by rw [List.length_append, List.length_singleton]; omega) HSX.out _ w4b O4.out.strs.at); unfold EncQ at HE2; rw [E2.out] at HE2; dsimp only at HE2; rw [mk_data] at HE2)
        | (go_simp; go_at_call 13; (with_reducible refine HE2.out.mono ?_); rintro e w5 ⟨rfl, hb5⟩; have B5 := Lib.hid (B4.out.trans (hb5.mono B4.out.size))))
      all_goals
        go_simp
        go_wp2_with fail
        refine (awake_any _).mono ?_
        rintro e wz ⟨rfl, hb⟩
        have BZ := Lib.hid (B5.out.trans (hb.mono B5.out.size))
        clear hb
        go_wp2
        go_ret
        exact ⟨rfl, BZ.out⟩
end Go.Proofs.Ytpinmmmbmhfmiaa.Dt
