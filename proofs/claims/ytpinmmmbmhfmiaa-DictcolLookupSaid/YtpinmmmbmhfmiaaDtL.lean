/- Layer 10: the walks of the reference's Distinct, Lookup and At. -/
import Derived.Test.YtpinmmmbmhfmiaaDtJ
set_option linter.unusedVariables false
set_option linter.unusedSimpArgs false
namespace Go.Proofs.Ytpinmmmbmhfmiaa.Dt
open Go.RowKit Go.Sort Dc
theorem decO_cases (s : List UInt8) : decO s = ([], 12) ∨ ∃ l, decO s = (l, 0) ∧ encO l = (s, 0) ∧ l.length ≤ 2000 ∧ ∀ x ∈ l, x.size ≤ 1000 := by
  cases h : decP s with
  | none => exact .inl (decO_none h)
  | some l =>
    by_cases h2 : encO l = (s, 0)
    · have h3 := encO_inv h2
      exact .inr ⟨l, decO_some h h2, h2, h3.1.1, h3.1.2⟩
    · exact .inl (decO_not h h2)
def DisQ (s : List UInt8) (w : World) (e : Ending) (w' : World) : Prop := ∃ v, e = .returned (.tuple #[v, .int .i64 (decO s).2]) ∧ OwnS w.heap.size w' v (dict (decO s).1) ∧ Below w.heap.size w w'
/-- Where x stands. -/
def lkL (x : BA) (l : List BA) (k : Nat) : List Int := ((List.range k).filter fun j => decide (l[j]?.getD ⟨#[]⟩ = x)).map fun (j : Nat) => (j : Int)
theorem lkL_len (x : BA) (l : List BA) (k : Nat) : (lkL x l k).length ≤ k := by
  unfold lkL
  rw [List.length_map]
  exact Nat.le_trans (List.length_filter_le _ _) (by rw [List.length_range]; exact Nat.le_refl _)
theorem lkL_yes {x : BA} {l : List BA} {k : Nat} (h : l[k]?.getD ⟨#[]⟩ = x) : lkL x l (k + 1) = lkL x l k ++ [(k : Int)] := by
  unfold lkL
  rw [List.range_succ, List.filter_append, List.map_append]
  simp [h]
theorem lkL_no {x : BA} {l : List BA} {k : Nat} (h : l[k]?.getD ⟨#[]⟩ ≠ x) : lkL x l (k + 1) = lkL x l k := by
  unfold lkL
  rw [List.range_succ, List.filter_append, List.map_append]
  simp [h]
def LkQ (s : List UInt8) (x : BA) (w : World) (e : Ending) (w' : World) : Prop := ∃ v, e = .returned (.tuple #[v, .int .i64 (decO s).2]) ∧ w'.ownsRow w.heap.size 3 1 v (lkL x (decO s).1 (decO s).1.length).length (ic (lkL x (decO s).1 (decO s).1.length)) ∧ Below w.heap.size w w'
noncomputable def atO (s : List UInt8) (i : Int) : BA × Int := if (decO s).2 ≠ 0 then (⟨#[]⟩, (decO s).2) else if i < 0 ∨ ((decO s).1.length : Int) ≤ i then (⟨#[]⟩, 2) else ((decO s).1[i.toNat]?.getD ⟨#[]⟩, 0)
set_option maxHeartbeats 2000000 in
set_option maxRecDepth 100000 in
theorem distinct_ref_any (s : BA) (w : World) : Calls Try.prog 20 #[.string s] w (DisQ s.data.toList w) := by
  have HD := Lib.hid (dec_ref_any s w)
  unfold DisQ
  unfold DecQ at HD
  rcases decO_cases s.data.toList with h | ⟨l, h, _, hl, _⟩
  · rw [h] at HD ⊢
    clear h
    go_enter Try.func20, Try.ntmps20
    go_wp2_with fail
    refine HD.out.mono ?_
    rintro e w1 ⟨v, rfl, ho, hb⟩
    have B1 := Lib.hid hb
    obtain ⟨A, c, rfl⟩ := own_form ho
    clear ho hb HD
    go_wp2
    go_ret2
    exact ⟨_, rfl, World.ownsRow_made _ #[] 0 B1.out.size (by unfold maxLen; omega) (by simp), B1.out.alloc B1.out.size _⟩
  · rw [h] at HD ⊢
    clear h
    go_enter Try.func20, Try.ntmps20
    go_wp2_with fail
    refine HD.out.mono ?_
    rintro e w1 ⟨v, rfl, ho, hb⟩
    have B1 := Lib.hid hb
    have HDI := Lib.hid (dictionary_any l (by omega) v w1 ho.strs.at)
    obtain ⟨A, c, rfl⟩ := own_form ho
    clear ho hb HD
    go_wp2_with fail
    refine HDI.out.mono ?_
    rintro e w2 ⟨v2, rfl, ho, hb⟩
    have B2 := Lib.hid (B1.out.trans (hb.mono B1.out.size))
    have O2 := Lib.hid (ho.more B1.out.size)
    obtain ⟨A2, c2, rfl⟩ := own_form ho
    clear ho hb HDI
    go_wp2
    go_ret2
    exact ⟨_, rfl, O2.out, B2.out⟩
set_option maxHeartbeats 2000000 in
set_option maxRecDepth 100000 in
theorem lookup_ref_any (s x : BA) (w : World) : Calls Try.prog 22 #[.string s, .string x] w (LkQ s.data.toList x w) := by
  obtain ⟨i0, hi, hz0, hz1, hz2⟩ := info_parts infoI
  have HD := Lib.hid (dec_ref_any s w)
  unfold LkQ
  unfold DecQ at HD
  have hl : (decO s.data.toList).1.length ≤ 2000 := by
    rcases decO_cases s.data.toList with h | ⟨l, h, _, hl, _⟩
    · rw [h]; exact Nat.zero_le _
    · rw [h]; exact hl
  generalize decO s.data.toList = q at *
  obtain ⟨l, ec⟩ := q
  dsimp only at *
  go_enter Try.func22, Try.ntmps22
  go_wp2_with fail
  refine HD.out.mono ?_
  rintro e w1 ⟨v, rfl, ho, hb⟩
  have B1 := Lib.hid hb
  have HX := Lib.hid ho.strs.at
  obtain ⟨A1, c1, rfl⟩ := own_form ho
  clear ho hb HD
  go_wp2
  have O2 : Hid ((w1.alloc (.cells #[] 3)).ownsRow w1.heap.size 3 1 (.slice (some ⟨w1.heap.size, 0, none⟩) 0 0) 0 []) := Lib.hid (World.ownsRow_made w1 #[] 0 (Nat.le_refl _) (by unfold maxLen; omega) (by simp))
  have B2 : Hid (Below w1.heap.size w1 (w1.alloc (.cells #[] 3))) := (Below.refl _ _).alloc (Nat.le_refl _) _
  go_loopw [8, 9] (fun vo vi wr => ∃ (k : Nat) (out : List Int) (A : Option Addr) (c : Nat), k ≤ l.length ∧ out.length ≤ k ∧ vo = .slice A out.length c ∧ vi = .int .i64 k ∧ Hid (out = lkL x l k) ∧ Hid (wr.ownsRow w1.heap.size 3 1 vo out.length (ic out)) ∧ Hid (Below w1.heap.size w1 wr))
    (fun _ vi _ => l.length - (intOf vi).toNat)
  case atStart => exact ⟨0, [], _, _, Nat.zero_le _, Nat.zero_le _, rfl, rfl, Lib.hid rfl, O2, B2⟩
  case round =>
    clear O2 B2
    obtain ⟨k, out, A, c, hk, hol, rfl, rfl, HE, HO, HB⟩ := hrel
    by_cases hlt : k < l.length
    · obtain ⟨a, cap, he, hcx⟩ := HX.out
      obtain ⟨b, o, ha, hbl, hc⟩ := hcx (by omega)
      have hae : A1 = some ⟨b, o, none⟩ := by rw [← ha]; injection he
      subst hae
      have hcell := (HB.out.cell (p := ⟨b, o + k, none⟩) hbl).trans (hc k hlt)
      have hki : (k : Int) < l.length := by omega
      obtain ⟨y, hy⟩ : ∃ y, l[k]?.getD ⟨#[]⟩ = y := ⟨_, rfl⟩
      rw [hy] at hcell
      by_cases hyx : y = x
      · have hqq := eq_yes hyx
        have HE2 : Hid (out ++ [(k : Int)] = lkL x l (k + 1)) := Lib.hid (by rw [lkL_yes (hy.trans hyx), HE.out])
        clear hc hcx he ha hyx hy HE
        go_wp2_with (at_builtin; refine wpList_append_own _ rfl _ _ 35 rfl w1.heap.size 3 i0 (.int .i64 0) 1 8 Try.underlying35 hi hz0 hz1 hz2 rfl (by decide) _ _ _ rfl (HO.out.alloc _) ⟨wr.heap.size, 0, none⟩ 1 1 [Value.int .i64 k] rfl rfl (cell_one_new _ _ _) (by simp [Value.oneCell']) (by unfold maxLen; omega) (by omega) (by have := HB.out.size; simp; omega) ?_; intro v4 w4 hown4 hgrow4 _; obtain ⟨g, cap4, rfl⟩ := ownsRow_succ hown4; have B4 := Lib.hid ((HB.out.alloc HB.out.size _).grown hgrow4 (by have := HB.out.size; simp; omega) (fun k hk => (HO.out.lt k hk).1)); have O4 := Lib.hid hown4; clear hown4 hgrow4)
        go_roundw
        case rel => exact ⟨k + 1, out ++ [(k : Int)], some ⟨g, 0, none⟩, cap4, by omega, by rw [List.length_append]; exact Nat.succ_le_succ hol, by rw [List.length_append]; rfl, by go_num, HE2, Lib.hid (by unfold ic; rw [List.map_append, List.length_append]; exact O4.out), B4⟩
        case measure => simp [intOf]; omega
      · have hqq := eq_no hyx
        have HE2 : Hid (out = lkL x l (k + 1)) := Lib.hid (by rw [lkL_no (by rw [hy]; exact hyx), HE.out])
        clear hc hcx he ha hyx hy HE
        go_wp2
        go_roundw
        case rel => exact ⟨k + 1, out, A, c, by omega, by omega, rfl, by go_num, HE2, HO, HB⟩
        case measure => simp [intOf]; omega
    · obtain rfl : k = l.length := by omega
      have hki : ¬ ((l.length : Int) < l.length) := by omega
      have O5 := Lib.hid (World.ownsRow.mono HO.out B1.out.size)
      have B5 := Lib.hid (B1.out.trans (HB.out.mono B1.out.size))
      go_wp2
      go_ret2
      refine ⟨_, rfl, ?_, B5.out⟩
      rw [← HE.out]
      exact O5.out
set_option maxHeartbeats 2000000 in
set_option maxRecDepth 100000 in
theorem at_ref_any (s : BA) (i : Int) (w : World) : Calls Try.prog 24 #[.string s, .int .i64 i] w fun e w' => e = .returned (.tuple #[.string (atO s.data.toList i).1, .int .i64 (atO s.data.toList i).2]) ∧ Below w.heap.size w w' := by
  have HD := Lib.hid (dec_ref_any s w)
  unfold atO
  unfold DecQ at HD
  have hl : (decO s.data.toList).1.length ≤ 2000 := by
    rcases decO_cases s.data.toList with h | ⟨l, h, _, hl, _⟩
    · rw [h]; exact Nat.zero_le _
    · rw [h]; exact hl
  generalize decO s.data.toList = q at *
  obtain ⟨l, ec⟩ := q
  dsimp only at *
  by_cases he : ec = 0
  · subst he
    rw [if_neg (by decide)]
    by_cases h1 : i < 0
    · rw [if_pos (.inl h1)]
      go_enter Try.func24, Try.ntmps24
      go_wp2_with fail
      refine HD.out.mono ?_
      rintro e w1 ⟨v, rfl, ho, hb⟩
      have B1 := Lib.hid hb
      obtain ⟨A1, c1, rfl⟩ := own_form ho
      clear ho hb HD
      go_wp2
      go_ret2
      exact ⟨rfl, B1.out⟩
    · by_cases h2 : (l.length : Int) ≤ i
      · rw [if_pos (.inr h2)]
        go_enter Try.func24, Try.ntmps24
        go_wp2_with fail
        refine HD.out.mono ?_
        rintro e w1 ⟨v, rfl, ho, hb⟩
        have B1 := Lib.hid hb
        obtain ⟨A1, c1, rfl⟩ := own_form ho
        clear ho hb HD
        go_wp2
        go_ret2
        exact ⟨rfl, B1.out⟩
      · rw [if_neg (by omega)]
        obtain ⟨j, rfl⟩ : ∃ j : Nat, i = (j : Int) := ⟨i.toNat, by omega⟩
        have hj : j < l.length := by omega
        have hji : (j : Int) < l.length := by omega
        rw [Int.toNat_natCast]
        obtain ⟨y, hy⟩ : ∃ y, l[j]?.getD ⟨#[]⟩ = y := ⟨_, rfl⟩
        rw [hy]
        go_enter Try.func24, Try.ntmps24
        go_wp2_with fail
        refine HD.out.mono ?_
        rintro e w1 ⟨v, rfl, ho, hb⟩
        have B1 := Lib.hid hb
        obtain ⟨a, cap, rfl, hcx⟩ := ho.strs.at
        obtain ⟨b, o, rfl, hbl, hc⟩ := hcx (by omega)
        have hcell := hc j hj
        rw [hy] at hcell
        clear ho hb HD hc hcx
        go_wp2
        go_ret2
        exact ⟨rfl, B1.out⟩
  · rw [if_pos he]
    have he1 : (ec != 0) = true := bne_iff_ne.2 he
    have he2 : (ec == 0) = false := beq_eq_false_iff_ne.2 he
    clear he
    go_enter Try.func24, Try.ntmps24
    go_wp2_with fail
    refine HD.out.mono ?_
    rintro e w1 ⟨v, rfl, ho, hb⟩
    have B1 := Lib.hid hb
    obtain ⟨A1, c1, rfl⟩ := own_form ho
    clear ho hb HD
    go_wp2
    go_ret2
    exact ⟨rfl, B1.out⟩
end Go.Proofs.Ytpinmmmbmhfmiaa.Dt
