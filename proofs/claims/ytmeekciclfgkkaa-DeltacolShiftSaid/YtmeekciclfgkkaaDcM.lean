/- Layer 9: DeltacolShift's walk. -/
import Derived.Lib.QuietBelow
import Derived.BigQuiet
import Derived.Laws.OwnMore
import Derived.OpenShut
import Derived.Test.YtmeekciclfgkkaaDcL
set_option linter.unusedVariables false
set_option linter.unusedSimpArgs false
namespace Go.Proofs.Ytmeekciclfgkkaa.Dc
open Go.RowKit Go.Sort
/-- The first k shifted. -/
def mix (l : List Int) (b : Int) (k : Nat) : List Int := (l.take k).map (· + b) ++ l.drop k
theorem mix_len (l : List Int) (b : Int) (k : Nat) : (mix l b k).length = l.length := by
  unfold mix
  rw [List.length_append, List.length_map, List.length_take, List.length_drop]
  omega
theorem mix_zero (l : List Int) (b : Int) : mix l b 0 = l := by simp [mix]
theorem mix_all (l : List Int) (b : Int) {k : Nat} (h : l.length ≤ k) : mix l b k = l.map (· + b) := by
  unfold mix
  rw [List.take_of_length_le h, List.drop_eq_nil_of_le h, List.append_nil]
theorem mix_step {l : List Int} {b x : Int} {k : Nat} (h : k < l.length) (hx : l[k]?.getD 0 = x) : (ic (mix l b k)).set k (.int .i64 (x + b)) = ic (mix l b (k + 1)) := by
  subst hx
  apply List.ext_getElem?
  intro j
  have hm := mix_len l b k
  have hm2 := mix_len l b (k + 1)
  have e : ∀ q, (mix l b q)[j]? = if j < q then (l[j]?).map (· + b) else l[j]? := fun q => by
    unfold mix
    by_cases hj : j < q
    · rw [if_pos hj]
      by_cases hjl : j < l.length
      · rw [List.getElem?_append_left (by rw [List.length_map, List.length_take]; omega), List.getElem?_map, List.getElem?_take_of_lt hj]
      · rw [List.getElem?_eq_none (l := l) (by omega), List.getElem?_eq_none (by rw [List.length_append, List.length_map, List.length_take, List.length_drop]; omega)]
        rfl
    · rw [if_neg hj]
      by_cases hql : q ≤ l.length
      · rw [List.getElem?_append_right (by rw [List.length_map, List.length_take]; omega), List.getElem?_drop, List.length_map, List.length_take]
        congr 1
        omega
      · rw [List.getElem?_eq_none (l := l) (by omega), List.getElem?_eq_none (by rw [List.length_append, List.length_map, List.length_take, List.length_drop]; omega)]
  unfold ic
  rw [List.getElem?_set, List.getElem?_map, List.getElem?_map, e, e, List.length_map]
  by_cases hj : k = j
  · subst hj
    rw [if_pos rfl, if_pos (by omega), if_pos (by omega), List.getElem?_eq_getElem h]
    rfl
  · rw [if_neg hj]
    by_cases hj2 : j < k
    · rw [if_pos hj2, if_pos (by omega)]
    · rw [if_neg hj2, if_neg (by omega)]
theorem pre_cut (u v : List UInt8) (a s : ByteArray) (h : a.data.toList = u) (hs : s.data.toList = u ++ v) : s.extract 0 a.size = a ∧ s.extract a.size s.size = ⟨v.toArray⟩ ∧ a.size ≤ s.size := by
  have h1 : a.size = u.length := by rw [← h]; exact Array.length_toList.symm
  have h2 : s.size = u.length + v.length := by
    have := congrArg List.length hs
    rw [List.length_append, Array.length_toList] at this
    exact this
  refine ⟨?_, ?_, by omega⟩
  · rw [of_list h]
    apply of_list
    rw [ByteArray.data_extract, Array.toList_extract, hs]
    have : (⟨u.toArray⟩ : ByteArray).size = u.length := mk_size u
    rw [this]
    simp
  · apply of_list
    rw [drop_ext, hs, h1]
    simp
def sm (x : Int) : Prop := -1099511627776 ≤ x ∧ x ≤ 1099511627776
theorem small_valid {l : List Int} (h : ∀ j, j < l.length → sm (l[j]?.getD 0)) : (∀ x ∈ l, sm x) ∧ chkV l = 0 := by
  have h1 : ∀ x ∈ l, sm x := fun x hx => by
    obtain ⟨j, hj, rfl⟩ := List.mem_iff_getElem.1 hx
    have := h j hj
    rwa [List.getElem?_eq_getElem hj] at this
  exact ⟨h1, chkV_all fun x hx => by have := h1 x hx; unfold sm at this; unfold okV; omega⟩
theorem small_shift {l : List Int} {b : Int} (h : ∀ x ∈ l, sm x) (hb : sm b) : chkV (l.map (· + b)) = 0 := chkV_all fun y hy => by
  obtain ⟨x, hx, rfl⟩ := List.mem_map.1 hy
  have := h x hx
  unfold sm at this hb
  unfold okV
  omega
/-- The texts that the law compares. -/
structure Texts (l : List Int) (b x : Int) (s t hd a c : ByteArray) : Prop where
  s1 : s.extract 0 a.size = a
  t1 : t.extract 0 c.size = c
  st : s.extract a.size s.size = t.extract c.size t.size
  sa : a.size ≤ s.size
  tc : c.size ≤ t.size
theorem texts_of (x : Int) (l : List Int) (b : Int) : Texts (x :: l) b x ⟨(encV (x :: l)).toArray⟩ ⟨(encV ((x :: l).map (· + b))).toArray⟩ (⟨#[]⟩ ++ ⟨(Lib.uvarint (x :: l).length).toArray⟩) ((⟨#[]⟩ ++ ⟨(Lib.uvarint (x :: l).length).toArray⟩) ++ ⟨(sB x).toArray⟩) ((⟨#[]⟩ ++ ⟨(Lib.uvarint (x :: l).length).toArray⟩) ++ ⟨(sB (x + b)).toArray⟩) := by
  obtain ⟨e1, e2⟩ := encV_shift l b x
  have p1 := pre_cut (Lib.uvarint (l.length + 1) ++ sB x) (rleB (diffs (x :: l))) ((⟨#[]⟩ ++ ⟨(Lib.uvarint (x :: l).length).toArray⟩) ++ ⟨(sB x).toArray⟩) ⟨(encV (x :: l)).toArray⟩ (by rw [app_list, app_list]; rfl) (by rw [e1])
  have p2 := pre_cut (Lib.uvarint (l.length + 1) ++ sB (x + b)) (rleB (diffs (x :: l))) ((⟨#[]⟩ ++ ⟨(Lib.uvarint (x :: l).length).toArray⟩) ++ ⟨(sB (x + b)).toArray⟩) ⟨(encV ((x :: l).map (· + b))).toArray⟩ (by rw [app_list, app_list]; rfl) (by rw [e2])
  exact ⟨p1.1, p2.1, p1.2.1.trans p2.2.1.symm, p1.2.2, p2.2.2⟩
theorem shift_facts {l : List Int} {b : Int} (hp : 0 < l.length) (hl : l.length ≤ 50) (hs : ∀ x ∈ l, sm x) (hv : chkV l = 0) (hb : sm b) : ∃ (x : Int) (ts tt th ta tc : ByteArray), l[0]?.getD 0 = x ∧ (l.map (· + b))[0]?.getD 0 = x + b ∧ Texts l b x ts tt th ta tc ∧
    (∀ (v : World) (sv : Value), Ints v.heap.size v sv l → Calls Try.prog 11 #[sv] v fun e w' => e = .returned (.tuple #[.string ts, .int .i64 0]) ∧ Below v.heap.size v w') ∧
    (∀ (v : World) (sv : Value), Ints v.heap.size v sv (l.map (· + b)) → Calls Try.prog 11 #[sv] v fun e w' => e = .returned (.tuple #[.string tt, .int .i64 0]) ∧ Below v.heap.size v w') ∧
    (∀ v, Calls Try.prog 15 #[.string ⟨#[]⟩, .int .i64 l.length] v fun e w' => e = .returned (.tuple #[.string th, .int .i64 0]) ∧ Below v.heap.size v w') ∧
    (∀ v, Calls Try.prog 13 #[.string th, .int .i64 x] v fun e w' => e = .returned (.tuple #[.string ta, .int .i64 0]) ∧ Below v.heap.size v w') ∧
    (∀ v, Calls Try.prog 13 #[.string th, .int .i64 (x + b)] v fun e w' => e = .returned (.tuple #[.string tc, .int .i64 0]) ∧ Below v.heap.size v w') := by
  have hvs := small_shift hs hb
  cases l with
  | nil => simp at hp
  | cons x l' =>
    have hxs : sm x := hs x (List.mem_cons_self ..)
    have hbs := hb
    unfold sm at hxs hbs
    have hu := uv_len9 (m := (x :: l').length) (by omega)
    have hsz : ((⟨#[]⟩ : ByteArray) ++ (⟨(Lib.uvarint (x :: l').length).toArray⟩ : ByteArray)).size ≤ 4294967000 := by
      rw [app_size]
      have : (⟨#[]⟩ : ByteArray).size = 0 := rfl
      omega
    exact ⟨x, _, _, _, _, _, rfl, rfl, texts_of x l' b, (back_values (by omega) hv).enc, (back_values (by rw [List.length_map]; omega) hvs).enc, fun v => append_any ⟨#[]⟩ _ v (by decide) (by omega), fun v => signed_any _ x v hsz (by omega) (by omega), fun v => signed_any _ (x + b) v hsz (by omega) (by omega)⟩
set_option maxHeartbeats 8000000 in
set_option maxRecDepth 100000 in
theorem shift_walk (l : List Int) (sv : Value) (b : Int) (w : World) (hl : l.length ≤ maxLen) (wf : (Lit.int .i64 b).wf = true) (hI : Ints w.heap.size w sv l) : Calls Try.prog 5 #[sv, .int .i64 b] w fun e w' => e = .returned (.bool true) ∧ Below w.heap.size w w' := by
  have B0 := Lib.hid (Below.refl w.heap.size w)
  have hbb := bounds_i64 wf
  clear wf
  by_cases h0 : l.length = 0
  · obtain ⟨_, _, rfl, _⟩ := hI
    have hq : ((l.length : Int) == 0) = true := by rw [h0]; rfl
    go_enter Try.func5, Try.ntmps5
    go_wp2_with fail
    refine (awake_any _).mono ?_
    rintro e w9 ⟨rfl, hb⟩
    have B9 := Lib.hid (B0.out.trans (hb.mono B0.out.size))
    clear hb
    go_wp2
    go_ret
    exact ⟨rfl, B9.out⟩
  have hq : ((l.length : Int) == 0) = false := by rw [beq_eq_false_iff_ne]; omega
  by_cases h1 : 50 < l.length
  · obtain ⟨_, _, rfl, _⟩ := hI
    clear h0
    go_enter Try.func5, Try.ntmps5
    go_wp2_with fail
    refine (awake_any _).mono ?_
    rintro e w9 ⟨rfl, hb⟩
    have B9 := Lib.hid (B0.out.trans (hb.mono B0.out.size))
    clear hb
    go_wp2
    go_ret
    exact ⟨rfl, B9.out⟩
  by_cases h2 : b < -1099511627776
  · obtain ⟨_, _, rfl, _⟩ := hI
    clear h0
    go_enter Try.func5, Try.ntmps5
    go_wp2_with fail
    refine (awake_any _).mono ?_
    rintro e w9 ⟨rfl, hb⟩
    have B9 := Lib.hid (B0.out.trans (hb.mono B0.out.size))
    clear hb
    go_wp2
    go_ret
    exact ⟨rfl, B9.out⟩
  by_cases h3 : 1099511627776 < b
  · obtain ⟨_, _, rfl, _⟩ := hI
    clear h0
    go_enter Try.func5, Try.ntmps5
    go_wp2_with fail
    refine (awake_any _).mono ?_
    rintro e w9 ⟨rfl, hb⟩
    have B9 := Lib.hid (B0.out.trans (hb.mono B0.out.size))
    clear hb
    go_wp2
    go_ret
    exact ⟨rfl, B9.out⟩
  obtain ⟨i0, hi, hz0, hz1, hz2⟩ := info_parts infoI
  have hpos : 0 < l.length := by omega
  have HCL := Lib.hid (clone_any l (by omega) hpos sv w hI)
  have HI := Lib.hid hI
  have HB : Hid (sm b) := by unfold sm; exact Lib.hid (by omega)
  have HP := Lib.hid hpos
  obtain ⟨a, cap, rfl, hcx⟩ := hI.at
  have HA := Lib.hid hcx
  clear h0 hpos hbb hcx
  go_enter Try.func5, Try.ntmps5
  go_wp2_with fail
  refine HCL.out.mono ?_
  rintro e w1 ⟨mv, rfl, ho, hb⟩
  have B1 := Lib.hid hb
  have O1 : Hid (w1.ownsRow w.heap.size 3 1 mv l.length (ic (mix l b 0))) := Lib.hid (by rw [mix_zero]; exact ho)
  clear HCL hb
  obtain ⟨g, cap2, hmv, _, hglt⟩ := ho.form HP.out
  subst hmv
  clear ho
  go_wp2
  go_loopw [39] (fun vi wr => ∃ k : Nat, k ≤ l.length ∧ vi = .int .i64 k ∧ Hid (wr.ownsRow w.heap.size 3 1 (.slice (some ⟨g, 0, none⟩) l.length cap2) l.length (ic (mix l b k))) ∧ Hid (Below w.heap.size w wr) ∧ Hid (∀ j, j < k → sm (l[j]?.getD 0)))
    (fun vi _ => l.length - (intOf vi).toNat)
  case atStart => exact ⟨0, Nat.zero_le _, rfl, O1, B1, Lib.hid (fun j h => by omega)⟩
  case round =>
    clear O1 B1
    obtain ⟨k, hk, rfl, HO, BR, HS⟩ := hrel
    by_cases hlt : k < l.length
    · obtain ⟨bl, off, rfl, hbl, hc⟩ := HA.out (List.ne_nil_of_length_pos (by omega))
      have hcell := (BR.out.cell (p := ⟨bl, off + k, none⟩) (by simp; omega)).trans (hc k hlt)
      have hi' : (k : Int) < l.length := by omega
      obtain ⟨x, hx⟩ := show ∃ x, l[k]?.getD 0 = x from ⟨_, rfl⟩
      rw [hx] at hcell
      have HX := Lib.hid hx
      clear hc hx
      by_cases q1 : x < -1099511627776
      · clear HO HS
        go_wp2_with fail
        refine (awake_any _).mono ?_
        rintro e w9 ⟨rfl, hb⟩
        have B9 := Lib.hid (BR.out.trans (hb.mono BR.out.size))
        clear hb
        go_wp2
        go_ret
        exact ⟨rfl, B9.out⟩
      · by_cases q2 : 1099511627776 < x
        · clear HO HS
          go_wp2_with fail
          refine (awake_any _).mono ?_
          rintro e w9 ⟨rfl, hb⟩
          have B9 := Lib.hid (BR.out.trans (hb.mono BR.out.size))
          clear hb
          go_wp2
          go_ret
          exact ⟨rfl, B9.out⟩
        · have hw : wrap64 (x + b) = x + b := by unfold wrap64; omega
          have hcm : wr.cell? ⟨g, k, none⟩ = some (.int .i64 ((mix l b k)[k]?.getD 0)) := by
            have hm := mix_len l b k
            rw [HO.out.cellAt k (by omega)]
            unfold ic
            rw [List.getElem?_map, List.getElem?_eq_getElem (by omega)]
            rfl
          have hfm := HO.out.frozenAt k
          have hst := HO.out.stored k (.int .i64 (x + b))
          rw [mix_step hlt HX.out] at hst
          have HST := Lib.hid hst
          have hsx : Hid (sm x) := by unfold sm; exact Lib.hid (by omega)
          have hgw : w.heap.size ≤ g := (HO.out.lt g rfl).1
          generalize (mix l b k)[k]?.getD 0 = y at *
          clear hst
          go_wp2
          go_roundw
          case rel => exact ⟨k + 1, by omega, by go_num, Lib.hid HST.out.1, Lib.hid (BR.out.setCell (p := ⟨g, k, none⟩) hgw _), Lib.hid (fun j hj => by
            by_cases e : j = k
            · rw [e, HX.out]; exact hsx.out
            · exact HS.out j (by omega))⟩
          case measure => simp [intOf]; omega
    · have hkl : k = l.length := by omega
      have HV := Lib.hid (small_valid (l := l) fun j hj => HS.out j (by omega))
      have HO2 : Hid (wr.ownsRow w.heap.size 3 1 (.slice (some ⟨g, 0, none⟩) l.length cap2) l.length (ic (l.map (· + b)))) := by
        have h := HO.out
        rw [mix_all l b (by omega)] at h
        exact Lib.hid h
      clear HO HS hkl
      obtain ⟨x, ts, tt, th, ta, tc, hx0, hx1, hT, e1, e2, e3, e4, e5⟩ := shift_facts HP.out (by omega) HV.out.1 HV.out.2 HB.out
      have E1 := Lib.hid e1
      have E2 := Lib.hid e2
      have E3 := Lib.hid e3
      have E4 := Lib.hid e4
      have E5 := Lib.hid e5
      have HT := Lib.hid hT
      clear e1 e2 e3 e4 e5 hT
      obtain ⟨bl, off, hae, hbl, hc⟩ := HA.out (List.ne_nil_of_length_pos HP.out)
      subst hae
      have hc0 := hc 0 HP.out
      rw [hx0, Nat.add_zero] at hc0
      have hm0 : wr.cell? ⟨g, 0, none⟩ = some (.int .i64 (x + b)) := by
        have hlm : 0 < (l.map (· + b)).length := by rw [List.length_map]; exact HP.out
        rw [HO2.out.cellAt 0 (by have := HP.out; omega), ← hx1]
        unfold ic
        rw [List.getElem?_map, List.getElem?_eq_getElem hlm]
        rfl
      have HC0 := Lib.hid hc0
      have HM0 := Lib.hid hm0
      have hp0 : (0 : Int) < l.length := by have := HP.out; omega
      have hgl : g < wr.heap.size := (HO2.out.lt g rfl).2
      have hblr : bl < wr.heap.size := Nat.lt_of_lt_of_le hbl BR.out.size
      have HC0r : Hid (wr.cell? ⟨bl, off, none⟩ = some (.int .i64 x)) := Lib.hid ((BR.out.cell (p := ⟨bl, off, none⟩) hbl).trans hc0)
      have hs1 := HT.out.s1
      have ht1 := HT.out.t1
      have hst := HT.out.st
      have hsa := HT.out.sa
      have htc := HT.out.tc
      clear hc hc0 hm0 HV HA HT hx0 hx1
      go_wp2_with fail
      refine (E1.out _ _ (HI.out.onto BR.out)).mono ?_
      rintro e w2 ⟨rfl, hb⟩
      have B2 := Lib.hid (BR.out.trans (hb.mono BR.out.size))
      have O2 := Lib.hid (own_belowP HO2.out hb)
      have C2 : Hid (w2.cell? ⟨g, 0, none⟩ = some (.int .i64 (x + b))) := Lib.hid ((hb.cell (p := ⟨g, 0, none⟩) hgl).trans HM0.out)
      have D2 : Hid (w2.cell? ⟨bl, off, none⟩ = some (.int .i64 x)) := Lib.hid ((hb.cell (p := ⟨bl, off, none⟩) hblr).trans HC0r.out)
      have hg2 := Nat.lt_of_lt_of_le hgl hb.size
      have hb2 := Nat.lt_of_lt_of_le hblr hb.size
      clear hb HO2 HM0 HC0r
      go_wp2_with fail
      refine (E2.out _ _ (by have h := O2.out; have h2 := Ints.of_own (C := w2.heap.size) (l := l.map (· + b)) (B := w.heap.size) (by rw [List.length_map]; exact h) (Nat.le_refl _); exact h2)).mono ?_
      rintro e w3 ⟨rfl, hb⟩
      have B3 := Lib.hid (B2.out.trans (hb.mono B2.out.size))
      have C3 : Hid (w3.cell? ⟨g, 0, none⟩ = some (.int .i64 (x + b))) := Lib.hid ((hb.cell (p := ⟨g, 0, none⟩) hg2).trans C2.out)
      have D3 : Hid (w3.cell? ⟨bl, off, none⟩ = some (.int .i64 x)) := Lib.hid ((hb.cell (p := ⟨bl, off, none⟩) hb2).trans D2.out)
      have hg3 := Nat.lt_of_lt_of_le hg2 hb.size
      have hb3 := Nat.lt_of_lt_of_le hb2 hb.size
      clear hb O2 C2 D2
      go_wp2_with fail
      refine (E3.out _).mono ?_
      rintro e w4 ⟨rfl, hb⟩
      have B4 := Lib.hid (B3.out.trans (hb.mono B3.out.size))
      have C4 : Hid (w4.cell? ⟨g, 0, none⟩ = some (.int .i64 (x + b))) := Lib.hid ((hb.cell (p := ⟨g, 0, none⟩) hg3).trans C3.out)
      have hd4 : w4.cell? ⟨bl, off, none⟩ = some (.int .i64 x) := (hb.cell (p := ⟨bl, off, none⟩) hb3).trans D3.out
      have hg4 := Nat.lt_of_lt_of_le hg3 hb.size
      clear hb C3 D3
      go_wp2_with fail
      refine (E4.out _).mono ?_
      rintro e w5 ⟨rfl, hb⟩
      have B5 := Lib.hid (B4.out.trans (hb.mono B4.out.size))
      have hc5 : w5.cell? ⟨g, 0, none⟩ = some (.int .i64 (x + b)) := (hb.cell (p := ⟨g, 0, none⟩) hg4).trans C4.out
      clear hb C4 hd4
      go_wp2_with fail
      refine (E5.out _).mono ?_
      rintro e w6 ⟨rfl, hb⟩
      have B6 := Lib.hid (B5.out.trans (hb.mono B5.out.size))
      clear hb hc5
      go_wp2_with fail
      have mixed : Try.prog.follows .mixedOrders = true := by kernel_rfl
      refine wp_region_quiet_below (by assumption) (by kernel_rfl) ?_
      iterate 60 quiet_step (fail)
      quiet_step (exact Calls.regrown_of (awake_any _))
      iterate 2 quiet_step (fail)
      refine wpQuiet_nil ?_
      intro _ hw'
      obtain ⟨⟨dq, osq⟩, hw''⟩ := hw'
      subst hw''
      have HZ : Hid (Below w.heap.size w (grow (redrawn w6 dq) osq)) := Lib.hid (B6.out.trans ((below_regrown w6 dq osq).mono B6.out.size))
      generalize grow (redrawn w6 dq) osq = WZ at *
      go_wp2
      go_ret
      exact ⟨rfl, HZ.out⟩
end Go.Proofs.Ytmeekciclfgkkaa.Dc
