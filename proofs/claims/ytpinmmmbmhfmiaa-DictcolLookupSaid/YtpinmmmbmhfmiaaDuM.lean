/- Layer 10: the program's Decode, Distinct, Lookup, At. -/
import Derived.Test.YtpinmmmbmhfmiaaDtL
import Derived.Test.YtpinmmmbmhfmiaaDuH
import Derived.Test.YtpinmmmbmhfmiaaDuL
set_option linter.unusedVariables false
set_option linter.unusedSimpArgs false
namespace Go.Proofs.Ytpinmmmbmhfmiaa.Dt
open Go.RowKit Go.Sort Dc
theorem Encode_any (l : List BA) (hl : l.length ≤ 100000) (hsz : ∀ x ∈ l, x.size ≤ 140737488351232) (sv : Value) (w : World) (hI : StrsAt w.heap.size w sv l) : Calls Try.prog 13 #[sv] w (EncQ l w) := pEncode_any l hl sv w hI
set_option maxHeartbeats 2000000 in
theorem Decode_any (s : BA) (hs : s.size ≤ 4294967000) (w : World) : Calls Try.prog 17 #[.string s] w (DecQ s.data.toList w) := by
  have hsl : s.data.toList.length = s.size := Array.length_toList
  have hR : Rest (w.alloc (.cells #[.string s] 56)) w.heap.size s.data.toList := by
    unfold Rest
    rw [mk_data]
    exact Boxed.new w _ _
  have HC := Lib.hid (column_any s.data.toList (by omega) w.heap.size _ hR)
  have B0 : Hid (Below w.heap.size w (w.alloc (.cells #[.string s] 56))) := Lib.hid ((Below.refl _ _).alloc (Nat.le_refl _) _)
  have hok := colL_ok s.data.toList
  have HY := Lib.hid (decO_col (s := s.data.toList))
  have HN := Lib.hid (decO_not_col (s := s.data.toList))
  unfold DecQ
  obtain ⟨L, hL⟩ : ∃ L, colL s.data.toList = L := ⟨_, rfl⟩
  rw [hL] at HC hok HY HN
  have hll := hok.1
  have HE := Lib.hid fun sv w hI => pEncode_any L (by omega) sv w hI
  unfold EncQ at HE
  obtain ⟨E, hE⟩ : ∃ E, encO L = E := ⟨_, rfl⟩
  rw [hE] at HE HY HN
  obtain ⟨t, c⟩ := E
  dsimp only at HE
  obtain ⟨W0, hW0⟩ : ∃ W0, w.alloc (.cells #[.string s] 56) = W0 := ⟨_, rfl⟩
  rw [hW0] at HC B0
  have HW0 := Lib.hid hW0
  have key : ∀ (P : Prop), (c = 0 → t = s.data.toList → P) → (c = 0 → t ≠ s.data.toList → P) → (c ≠ 0 → P) → P := fun P h1 h2 h3 => by
    by_cases hc : c = 0
    · by_cases ht : t = s.data.toList
      · exact h1 hc ht
      · exact h2 hc ht
    · exact h3 hc
  refine key _ (fun hc ht => ?_) (fun hc ht => ?_) (fun hc => ?_)
  · subst hc
    have HD := Lib.hid (HY.out (by rw [ht]))
    rw [HD.out]
    dsimp only
    have hq : ((⟨t.toArray⟩ : BA).toList == s.toList) = true := eq_yes (by rw [ht])
    generalize (⟨t.toArray⟩ : BA) = y at *
    clear HY HN hsl hR hok hW0 hE hL ht hs
    go_enter Try.func17, Try.ntmps17
    go_wp2_with fail
    rw [HW0.out]
    refine HC.out.mono ?_
    rintro e w1 ⟨⟨v1, rfl, ho1⟩, hg1⟩
    have B1 := Lib.hid (B0.out.grown hg1 B0.out.size (fun k hk => by cases hk; exact Nat.le_refl _))
    have O1 := Lib.hid (own_lower ho1 B0.out.size)
    have H2 := Lib.hid (HE.out v1 w1 (OwnS.strs ho1).at)
    obtain ⟨A1, c1, rfl⟩ := own_form ho1
    clear ho1 hg1 HC HE B0
    go_wp2_with fail
    refine H2.out.mono ?_
    rintro e w2 ⟨rfl, hb2⟩
    have B2 := Lib.hid (B1.out.trans (hb2.mono B1.out.size))
    have O2 := Lib.hid (O1.out.step hb2)
    clear hb2 H2 O1 B1
    go_wp2
    go_ret2
    exact ⟨_, rfl, O2.out, B2.out⟩
  · subst hc
    have HD := Lib.hid (HN.out (fun h => ht (Prod.mk.inj h).1))
    rw [HD.out]
    dsimp only
    have hq : ((⟨t.toArray⟩ : BA).toList == s.toList) = false := eq_no (fun h => ht (by rw [← h]))
    generalize (⟨t.toArray⟩ : BA) = y at *
    clear HY HN hsl hR hok hW0 hE hL ht hs
    go_enter Try.func17, Try.ntmps17
    go_wp2_with fail
    rw [HW0.out]
    refine HC.out.mono ?_
    rintro e w1 ⟨⟨v1, rfl, ho1⟩, hg1⟩
    have B1 := Lib.hid (B0.out.grown hg1 B0.out.size (fun k hk => by cases hk; exact Nat.le_refl _))
    have O1 := Lib.hid (own_lower ho1 B0.out.size)
    have H2 := Lib.hid (HE.out v1 w1 (OwnS.strs ho1).at)
    obtain ⟨A1, c1, rfl⟩ := own_form ho1
    clear ho1 hg1 HC HE B0
    go_wp2_with fail
    refine H2.out.mono ?_
    rintro e w2 ⟨rfl, hb2⟩
    have B2 := Lib.hid (B1.out.trans (hb2.mono B1.out.size))
    have O2 := Lib.hid (O1.out.step hb2)
    clear hb2 H2 O1 B1
    go_wp2
    go_ret2
    exact ⟨_, rfl, OwnS.nil_ _ _, B2.out⟩
  · have HD := Lib.hid (HN.out (fun h => hc (Prod.mk.inj h).2))
    rw [HD.out]
    dsimp only
    have hcb := bne_yes hc
    generalize (⟨t.toArray⟩ : BA) = y at *
    clear HY HN hsl hR hok hW0 hE hL hc hs
    go_enter Try.func17, Try.ntmps17
    go_wp2_with fail
    rw [HW0.out]
    refine HC.out.mono ?_
    rintro e w1 ⟨⟨v1, rfl, ho1⟩, hg1⟩
    have B1 := Lib.hid (B0.out.grown hg1 B0.out.size (fun k hk => by cases hk; exact Nat.le_refl _))
    have O1 := Lib.hid (own_lower ho1 B0.out.size)
    have H2 := Lib.hid (HE.out v1 w1 (OwnS.strs ho1).at)
    obtain ⟨A1, c1, rfl⟩ := own_form ho1
    clear ho1 hg1 HC HE B0
    go_wp2_with fail
    refine H2.out.mono ?_
    rintro e w2 ⟨rfl, hb2⟩
    have B2 := Lib.hid (B1.out.trans (hb2.mono B1.out.size))
    have O2 := Lib.hid (O1.out.step hb2)
    clear hb2 H2 O1 B1
    go_wp2
    go_ret2
    exact ⟨_, rfl, OwnS.nil_ _ _, B2.out⟩
set_option maxHeartbeats 2000000 in
theorem Distinct_any (s : BA) (hs : s.size ≤ 4294967000) (w : World) : Calls Try.prog 19 #[.string s] w (DisQ s.data.toList w) := by
  have HD := Lib.hid (Decode_any s hs w)
  unfold DisQ
  unfold DecQ at HD
  have hl : (decO s.data.toList).1.length ≤ 2000 := by
    rcases decO_cases s.data.toList with h | ⟨l, h, _, hl, _⟩
    · rw [h]; exact Nat.zero_le _
    · rw [h]; exact hl
  generalize decO s.data.toList = q at *
  obtain ⟨l, ec⟩ := q
  dsimp only at *
  go_enter Try.func19, Try.ntmps19
  go_wp2_with fail
  refine HD.out.mono ?_
  rintro e w1 ⟨v, rfl, ho, hb⟩
  have B1 := Lib.hid hb
  have HDI := Lib.hid (pdict_any l (by omega) v w1 (OwnS.strs ho).at)
  obtain ⟨A, c, rfl⟩ := own_form ho
  clear ho hb HD
  go_wp2_with fail
  refine HDI.out.mono ?_
  rintro e w2 ⟨v2, rfl, ho, hb⟩
  have B2 := Lib.hid (B1.out.trans (hb.mono B1.out.size))
  have O2 := Lib.hid (own_lower ho B1.out.size)
  obtain ⟨A2, c2, rfl⟩ := own_form ho
  clear ho hb HDI
  go_wp2
  go_ret2
  exact ⟨_, rfl, O2.out, B2.out⟩
set_option maxHeartbeats 2000000 in
set_option maxRecDepth 100000 in
theorem Lookup_any (s x : BA) (hs : s.size ≤ 4294967000) (w : World) : Calls Try.prog 21 #[.string s, .string x] w (LkQ s.data.toList x w) := by
  obtain ⟨i0, hi, hz0, hz1, hz2⟩ := info_parts infoI
  have HD := Lib.hid (Decode_any s hs w)
  unfold LkQ
  unfold DecQ at HD
  have hl : (decO s.data.toList).1.length ≤ 2000 := by
    rcases decO_cases s.data.toList with h | ⟨l, h, _, hl, _⟩
    · rw [h]; exact Nat.zero_le _
    · rw [h]; exact hl
  generalize decO s.data.toList = q at *
  obtain ⟨l, ec⟩ := q
  dsimp only at *
  go_enter Try.func21, Try.ntmps21
  go_wp2_with fail
  refine HD.out.mono ?_
  rintro e w1 ⟨v, rfl, ho, hb⟩
  have B1 := Lib.hid hb
  have HX := Lib.hid ho.strs.at
  obtain ⟨A1, c1, rfl⟩ := own_form ho
  clear ho hb HD
  go_wp2
  have O2 : Hid (w1.ownsRow w1.heap.size 3 1 (.slice none 0 0) 0 []) := Lib.hid (World.ownsRow_nil _ _ _ _)
  have B2 : Hid (Below w1.heap.size w1 w1) := Below.refl _ _
  go_loopw [8, 18] (fun vo vi wr => ∃ (k : Nat) (out : List Int) (A : Option Addr) (c : Nat), k ≤ l.length ∧ out.length ≤ k ∧ vo = .slice A out.length c ∧ vi = .int .i64 k ∧ Hid (out = lkL x l k) ∧ Hid (wr.ownsRow w1.heap.size 3 1 vo out.length (ic out)) ∧ Hid (Below w1.heap.size w1 wr))
    (fun _ vi _ => l.length - (intOf vi).toNat)
  case atStart => exact ⟨0, [], _, _, Nat.zero_le _, Nat.zero_le _, rfl, rfl, Lib.hid rfl, O2, B2⟩
  case round =>
    clear O2 B2
    obtain ⟨k, out, A, c, hk, hol, rfl, rfl, HE, HO, HB⟩ := hrel
    by_cases hlt : k < l.length
    · obtain ⟨a, cap, he, hcx⟩ := HX.out
      obtain ⟨b, o, ha, hbl, hc⟩ := hcx (by omega)
      have hae : A1 = some ⟨b, o, none⟩ := by rw [← ha]; injection he
      subst hae
      have hcell := (HB.out.cell (p := ⟨b, o + k, none⟩) hbl).trans (hc k hlt)
      have hki : (k : Int) < l.length := by omega
      obtain ⟨y, hy⟩ : ∃ y, l[k]?.getD ⟨#[]⟩ = y := ⟨_, rfl⟩
      rw [hy] at hcell
      by_cases hyx : y = x
      · have hqq := eq_yes hyx
        have HE2 : Hid (out ++ [(k : Int)] = lkL x l (k + 1)) := Lib.hid (by rw [lkL_yes (hy.trans hyx), HE.out])
        clear hc hcx he ha hyx hy HE
        go_wp2_with (at_builtin; refine wpList_append_own _ rfl _ _ 35 rfl w1.heap.size 3 i0 (.int .i64 0) 1 8 Try.underlying35 hi hz0 hz1 hz2 rfl (by decide) _ _ _ rfl (HO.out.alloc _) ⟨wr.heap.size, 0, none⟩ 1 1 [Value.int .i64 k] rfl rfl (cell_one_new _ _ _) (by simp [Value.oneCell']) (by unfold maxLen; omega) (by omega) (by have := HB.out.size; simp; omega) ?_; intro v4 w4 hown4 hgrow4 _; obtain ⟨g, cap4, rfl⟩ := ownsRow_succ hown4; have B4 := Lib.hid ((HB.out.alloc HB.out.size _).grown hgrow4 (by have := HB.out.size; simp; omega) (fun k hk => (HO.out.lt k hk).1)); have O4 := Lib.hid hown4; clear hown4 hgrow4)
        go_roundw
        case rel => exact ⟨k + 1, out ++ [(k : Int)], some ⟨g, 0, none⟩, cap4, by omega, by rw [List.length_append]; exact Nat.succ_le_succ hol, by rw [List.length_append]; rfl, by go_num, HE2, Lib.hid (by unfold ic; rw [List.map_append, List.length_append]; exact O4.out), B4⟩
        case measure => simp [intOf]; omega
      · have hqq := eq_no hyx
        have HE2 : Hid (out = lkL x l (k + 1)) := Lib.hid (by rw [lkL_no (by rw [hy]; exact hyx), HE.out])
        clear hc hcx he ha hyx hy HE
        go_wp2
        go_roundw
        case rel => exact ⟨k + 1, out, A, c, by omega, by omega, rfl, by go_num, HE2, HO, HB⟩
        case measure => simp [intOf]; omega
    · obtain rfl : k = l.length := by omega
      have hki : ¬ ((l.length : Int) < l.length) := by omega
      have O5 := Lib.hid (World.ownsRow.mono HO.out B1.out.size)
      have B5 := Lib.hid (B1.out.trans (HB.out.mono B1.out.size))
      go_wp2
      go_ret2
      refine ⟨_, rfl, ?_, B5.out⟩
      rw [← HE.out]
      exact O5.out
set_option maxHeartbeats 2000000 in
set_option maxRecDepth 100000 in
theorem At_any (s : BA) (hs : s.size ≤ 4294967000) (i : Int) (w : World) : Calls Try.prog 23 #[.string s, .int .i64 i] w fun e w' => e = .returned (.tuple #[.string (atO s.data.toList i).1, .int .i64 (atO s.data.toList i).2]) ∧ Below w.heap.size w w' := by
  have HD := Lib.hid (Decode_any s hs w)
  unfold atO
  unfold DecQ at HD
  have hl : (decO s.data.toList).1.length ≤ 2000 := by
    rcases decO_cases s.data.toList with h | ⟨l, h, _, hl, _⟩
    · rw [h]; exact Nat.zero_le _
    · rw [h]; exact hl
  generalize decO s.data.toList = q at *
  obtain ⟨l, ec⟩ := q
  dsimp only at *
  by_cases he : ec = 0
  · subst he
    rw [if_neg (by decide)]
    by_cases h1 : i < 0
    · rw [if_pos (.inl h1)]
      go_enter Try.func23, Try.ntmps23
      go_wp2_with fail
      refine HD.out.mono ?_
      rintro e w1 ⟨v, rfl, ho, hb⟩
      have B1 := Lib.hid hb
      obtain ⟨A1, c1, rfl⟩ := own_form ho
      clear ho hb HD
      go_wp2
      go_ret2
      exact ⟨rfl, B1.out⟩
    · by_cases h2 : (l.length : Int) ≤ i
      · rw [if_pos (.inr h2)]
        go_enter Try.func23, Try.ntmps23
        go_wp2_with fail
        refine HD.out.mono ?_
        rintro e w1 ⟨v, rfl, ho, hb⟩
        have B1 := Lib.hid hb
        obtain ⟨A1, c1, rfl⟩ := own_form ho
        clear ho hb HD
        go_wp2
        go_ret2
        exact ⟨rfl, B1.out⟩
      · rw [if_neg (by omega)]
        obtain ⟨j, rfl⟩ : ∃ j : Nat, i = (j : Int) := ⟨i.toNat, by omega⟩
        have hj : j < l.length := by omega
        have hji : (j : Int) < l.length := by omega
        rw [Int.toNat_natCast]
        obtain ⟨y, hy⟩ : ∃ y, l[j]?.getD ⟨#[]⟩ = y := ⟨_, rfl⟩
        rw [hy]
        go_enter Try.func23, Try.ntmps23
        go_wp2_with fail
        refine HD.out.mono ?_
        rintro e w1 ⟨v, rfl, ho, hb⟩
        have B1 := Lib.hid hb
        obtain ⟨a, cap, rfl, hcx⟩ := ho.strs.at
        obtain ⟨b, o, rfl, hbl, hc⟩ := hcx (by omega)
        have hcell := hc j hj
        rw [hy] at hcell
        clear ho hb HD hc hcx
        go_wp2
        go_ret2
        exact ⟨rfl, B1.out⟩
  · rw [if_pos he]
    have he1 : (ec != 0) = true := bne_iff_ne.2 he
    have he2 : (ec == 0) = false := beq_eq_false_iff_ne.2 he
    clear he
    go_enter Try.func23, Try.ntmps23
    go_wp2_with fail
    refine HD.out.mono ?_
    rintro e w1 ⟨v, rfl, ho, hb⟩
    have B1 := Lib.hid hb
    obtain ⟨A1, c1, rfl⟩ := own_form ho
    clear ho hb HD
    go_wp2
    go_ret2
    exact ⟨rfl, B1.out⟩
end Go.Proofs.Ytpinmmmbmhfmiaa.Dt
