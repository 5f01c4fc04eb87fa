/- Layer 10: the walk of Lookup. -/
import Derived.Test.YtpinmmmbmhfmiaaDtX
set_option linter.unusedVariables false
set_option linter.unusedSimpArgs false
namespace Go.Proofs.Ytpinmmmbmhfmiaa.Dt
open Go.RowKit Go.Sort Dc
set_option maxHeartbeats 4000000 in
set_option maxRecDepth 100000 in
theorem lookup_walk (l : List BA) (hsz : ∀ x ∈ l, x.size ≤ 140737488351232) (sv : Value) (u : BA) (w : World) (hI : StrsAt w.heap.size w sv l) : Calls Try.prog 9 #[sv, .string u] w fun e w' => e = .returned (.bool true) ∧ Below w.heap.size w w' := by
  obtain ⟨i0, hi, hz0, hz1, hz2⟩ := info_parts infoI
  have B0 := Lib.hid (Below.refl w.heap.size w)
  have HG := Lib.hid (great_any l hsz sv w hI)
  have HI := Lib.hid hI
  have HSZ := Lib.hid hsz
  obtain ⟨a, cap, rfl, hx1⟩ := hI
  clear hx1 hsz
  by_cases hu : 1100 < u.size
  · have hui : (1100 : Int) < u.size := by omega
    go_enter Try.func9, Try.ntmps9
    go_wp2_with fail
    refine HG.out.mono ?_
    rintro e w1 ⟨⟨b, rfl, hg⟩, rfl⟩
    clear HG hg
    cases b with
    | true =>
      go_wp2_with fail
      refine (awake_any _).mono ?_
      rintro e wz ⟨rfl, hb⟩
      have BZ := Lib.hid (B0.out.trans (hb.mono B0.out.size))
      clear hb
      go_wp2
      go_ret
      exact ⟨rfl, BZ.out⟩
    | false =>
      go_wp2_with fail
      refine (awake_any _).mono ?_
      rintro e wz ⟨rfl, hb⟩
      have BZ := Lib.hid (B0.out.trans (hb.mono B0.out.size))
      clear hb
      go_wp2
      go_ret
      exact ⟨rfl, BZ.out⟩
  · have hui : ¬ (1100 : Int) < u.size := by omega
    go_enter Try.func9, Try.ntmps9
    go_wp2_with fail
    refine HG.out.mono ?_
    rintro e w1 ⟨⟨b, rfl, hg⟩, rfl⟩
    clear HG
    cases b with
    | true =>
      clear hg
      go_wp2_with fail
      refine (awake_any _).mono ?_
      rintro e wz ⟨rfl, hb⟩
      have BZ := Lib.hid (B0.out.trans (hb.mono B0.out.size))
      clear hb
      go_wp2
      go_ret
      exact ⟨rfl, BZ.out⟩
    | false =>
      have hl := (hg rfl).1
      have HL := Lib.hid hl
      have HE := Lib.hid (Encode_any l (by omega) HSZ.out _ w HI.out)
      unfold EncQ at HE
      clear hg hu
      rcases look_facts hl with ⟨t, e1, d1, z1⟩ | e1
      · rw [e1] at HE
        dsimp only at HE
        rw [mk_data] at HE
        have HD := Lib.hid fun v => Distinct_any t (by omega) v
        unfold DisQ at HD
        rw [d1] at HD
        dsimp only at HD
        have HK := Lib.hid fun x v => Lookup_any t x (by omega) v
        unfold LkQ at HK
        rw [d1] at HK
        dsimp only at HK
        have HAT := Lib.hid fun (j : Nat) (hj : j < l.length) v => At_any t (by omega) (j : Int) v
        have HAE := Lib.hid fun v => At_any t (by omega) (l.length : Int) v
        have HA1 := Lib.hid fun (j : Nat) (hj : j < l.length) => atO_in d1 hj
        have HA2 := Lib.hid (atO_end d1)
        rw [HA2.out] at HAE
        have HN := Lib.hid (asc_nodup (dict_asc l))
        have HM := Lib.hid (dict_mem l)
        have hdl := dict_len l
        have HZ1 := Lib.hid (allL_sorted HN.out HM.out)
        have HZ2 : Hid ((allL (dict l) l).length = l.length) := Lib.hid (by rw [(allL_perm HN.out HM.out).length_eq, rngZ_len])
        obtain ⟨D, hD⟩ : ∃ D, dict l = D := ⟨_, rfl⟩
        rw [hD] at HD HM hdl HZ1 HZ2
        obtain ⟨P, hP⟩ : ∃ P, lkL u l l.length = P := ⟨_, rfl⟩
        have HK1 := Lib.hid fun v => HK.out u v
        rw [hP] at HK1
        have HPM : Hid (∀ j : Nat, j < l.length → ((j : Int) ∈ P ↔ l[j]?.getD ⟨#[]⟩ = u)) := Lib.hid fun j hj => by rw [← hP]; exact lkL_at hj
        have HPL : Hid (P.length ≤ 40) := Lib.hid (by rw [← hP]; exact Nat.le_trans (lkL_len _ _ _) hl)
        obtain ⟨bb, hbb⟩ : ∃ bb, decide (0 ≤ idxI u l) = bb := ⟨_, rfl⟩
        have hpb : decide (0 < P.length) = bb := by
          rw [← hbb, ← hP]
          exact decide_eq_decide.2 (lkL_pos.trans idxI_ge.symm)
        have hpi : decide ((0 : Int) < P.length) = bb := by
          rw [← hpb]
          exact decide_eq_decide.2 (by omega)
        have HH := Lib.hid fun v hI => has_any l (by omega) u (.slice a l.length cap) v hI
        rw [hbb] at HH
        have hd40 : D.length ≤ 40 := by omega
        clear e1 d1 z1 hD hP hbb hdl
        go_wp2_with fail
        refine HE.out.mono ?_
        rintro e w1 ⟨rfl, hb⟩
        have B1 := Lib.hid (B0.out.trans (hb.mono B0.out.size))
        clear hb B0 HE HSZ
        go_wp2_with fail
        refine (HK1.out w1).mono ?_
        rintro e w2 ⟨v2, rfl, ho, hb⟩
        have B2 := Lib.hid (B1.out.trans (hb.mono B1.out.size))
        have P2 := Lib.hid (Ints.of_own (C := w2.heap.size) ho (Nat.le_refl _))
        obtain ⟨A2, c2, rfl⟩ := own_form ho
        clear hb ho B1 HK1
        go_wp2_with fail
        refine (HD.out w2).mono ?_
        rintro e w3 ⟨v3, rfl, ho, hb⟩
        have B3 := Lib.hid (B2.out.trans (hb.mono B2.out.size))
        have P3 := Lib.hid (P2.out.onto hb)
        have D3 := Lib.hid (OwnS.strs ho)
        have H3 := Lib.hid (HH.out w3 (HI.out.onto B3.out))
        obtain ⟨A3, c3, rfl⟩ := own_form ho
        clear hb ho B2 P2 HD HH
        go_wp2_with fail
        refine H3.out.mono ?_
        rintro e w4 ⟨rfl, rfl⟩
        have O0 : Hid (OwnZ w3.heap.size w3 (.slice none 0 0) []) := Lib.hid (World.ownsRow_nil _ _ _ _)
        have Z0 : Hid (([] : List Int) = allL (D.take 0) l) := Lib.hid rfl
        have C0 := Lib.hid (Below.refl w3.heap.size w3)
        clear H3
        go_wp2
        go_loopw [11, 66] (fun va vi wr => ∃ (k : Nat) (Z : List Int) (A : Option Addr) (c : Nat), k ≤ D.length ∧ vi = .int .i64 k ∧ va = .slice A Z.length c ∧ Hid (Z = allL (D.take k) l) ∧ Hid (OwnZ w3.heap.size wr (.slice A Z.length c) Z) ∧ Hid (Below w3.heap.size w3 wr))
          (fun _ vi _ => D.length - (intOf vi).toNat)
        case atStart => exact ⟨0, [], none, 0, Nat.zero_le _, rfl, rfl, Z0, O0, C0⟩
        case round =>
          clear O0 Z0 C0
          obtain ⟨k, Z, A, c, hk, rfl, rfl, HZ, HO, HB⟩ := hrel
          by_cases hlt : k < D.length
          · have hki : (k : Int) < D.length := Int.ofNat_lt.2 hlt
            have hkw : IntKind.i64.wrap ((k : Int) + 1) = (k : Int) + 1 := wrap_up2 (by omega)
            obtain ⟨a5, c5', he5, hcx5⟩ := D3.out.at
            obtain ⟨b5, o5, ha5, hb5, hc5⟩ := hcx5 (by omega)
            have hae : A3 = some ⟨b5, o5, none⟩ := by rw [← ha5]; injection he5
            subst hae
            have hcell := (HB.out.cell (p := ⟨b5, o5 + k, none⟩) hb5).trans (hc5 k hlt)
            rw [at_get hlt] at hcell
            have HZN : Hid (allL (D.take (k + 1)) l = Z ++ lkL D[k] l l.length) := Lib.hid (by rw [allL_more hlt, HZ.out])
            have HKX := Lib.hid (HK.out D[k] wr)
            have hmp : 0 < (lkL D[k] l l.length).length := lkL_pos.2 ((HM.out _).1 (List.getElem_mem hlt))
            have hml := lkL_len D[k] l l.length
            have HML := Lib.hid (lkL_le D[k] l l.length)
            have HZL : Hid (Z.length ≤ 1600) := Lib.hid (by
              rw [HZ.out]
              refine Nat.le_trans (allL_len _ _) ?_
              have h1 : (D.take k).length ≤ 40 := by rw [List.length_take]; omega
              exact Nat.le_trans (Nat.mul_le_mul h1 HL.out) (by decide))
            generalize lkL D[k] l l.length = M at *
            generalize D[k] = x at *
            have hm0 : ((M.length : Int) == 0) = false := by rw [beq_eq_false_iff_ne]; omega
            have hm1 : ¬ (M.length : Int) = 0 := by omega
            have HMP := Lib.hid hmp
            have HM4 : Hid (M.length ≤ 40) := Lib.hid (by omega)
            clear hcx5 he5 ha5 hc5 hmp hml HZ
            go_wp2_with fail
            refine HKX.out.mono ?_
            rintro e w5 ⟨v5, rfl, ho, hb⟩
            have B5 := Lib.hid (HB.out.trans (hb.mono HB.out.size))
            have O5 : Hid (OwnZ w3.heap.size w5 (.slice A Z.length c) Z) := Lib.hid (own_belowP HO.out hb)
            have S5 := Lib.hid (sorted_is M (by have := HM4.out; omega) HMP.out HML.out v5 w5 (Ints.of_own (C := w5.heap.size) ho (Nat.le_refl _)).at)
            obtain ⟨A5, c5, rfl⟩ := own_form ho
            have R5 := Lib.hid (Reads.of_own ho)
            clear ho hb HKX HO HB
            go_wp2_with fail
            refine S5.out.mono ?_
            rintro e w6 ⟨rfl, hb⟩
            have B6 := Lib.hid (B5.out.trans (hb.mono B5.out.size))
            have O6 : Hid (OwnZ w3.heap.size w6 (.slice A Z.length c) Z) := Lib.hid (own_belowP O5.out hb)
            have R6 := Lib.hid (R5.out.below hb)
            have hle5 := hb.size
            clear hb S5 O5 R5 B5
            go_wp2_with (at_builtin; refine wpList_append_any _ rfl _ _ 35 rfl w3.heap.size 3 i0 _ 1 8 Try.underlying35 hi hz0 hz1 hz2 rfl (by decide) (.slice A Z.length c) Z.length (ic Z) rfl O6.out w5.heap.size A5 M.length c5 (ic M) rfl R6.out (ic_one M) (by have := HZL.out; have := HM4.out; simp only [maxLen]; omega) (by have := HZL.out; have := HM4.out; omega) (by have := B6.out.size; omega) ?_; intro v7 w7 ho7 hg7 _; have O7 := Lib.hid ho7; have B7 := Lib.hid (B6.out.grown hg7 B6.out.size (fun g e => (World.ownsRow.lt O6.out g e).1)); clear ho7 hg7)
            have O8 : Hid (OwnZ w3.heap.size w7 v7 (Z ++ M)) := Lib.hid (by have := O7.out; rw [ic_app, ← List.length_append] at this; exact this)
            obtain ⟨A8, c8, rfl⟩ := own_form O8.out
            have HZ8 : Hid (Z ++ M = allL (D.take (k + 1)) l) := Lib.hid HZN.out.symm
            clear O7 O6 B6 R6 hm0 hm1
            go_roundw
            case rel => exact ⟨k + 1, Z ++ M, A8, c8, by omega, by go_num, rfl, HZ8, O8, B7⟩
            case measure => simp [intOf]; omega
          · obtain rfl : k = D.length := by omega
            have HZ9 : Hid (Z = allL D l) := Lib.hid (by have := HZ.out; rwa [List.take_length] at this)
            have hzl : Z.length = l.length := by rw [HZ9.out]; exact HZ2.out
            have S9 := Lib.hid (sortz_any w3.heap.size Z (by have := HL.out; omega) _ wr HO.out)
            rw [HZ9.out, HZ1.out, ← HZ9.out] at S9
            have B9 := Lib.hid (B3.out.trans (HB.out.mono B3.out.size))
            have G9 : Hid (∀ g, (Value.slice A Z.length c).ownBlock = some g → w3.heap.size ≤ g) := Lib.hid fun g e => (World.ownsRow.lt HO.out g e).1
            have HLZ := Lib.hid hzl
            obtain ⟨R, hR⟩ : ∃ R, rngZ l.length = R := ⟨_, rfl⟩
            have HR1 : Hid (R.length = l.length) := Lib.hid (by rw [← hR]; exact rngZ_len _)
            have HR2 : Hid (∀ j, j < l.length → R[j]?.getD 0 = (j : Int)) := Lib.hid fun j hj => by rw [← hR]; exact rngZ_at hj
            rw [hR] at S9
            clear hR hzl HZ HO HK
            go_wp2_with fail
            refine S9.out.mono ?_
            rintro e w10 ⟨rfl, ho, hg⟩
            have C10 := Lib.hid (HB.out.grown hg HB.out.size (fun g e => G9.out g e))
            have B10 := Lib.hid (B3.out.trans (C10.out.mono B3.out.size))
            have P10 := Lib.hid (P3.out.onto C10.out)
            have R10 := Lib.hid (Ints.of_own (C := w10.heap.size) ho (Nat.le_refl _)).at
            have I10 := Lib.hid (HI.out.onto B10.out)
            have D10 := Lib.hid (Below.refl w10.heap.size w10)
            have hzl := HLZ.out
            clear ho hg S9 B9 G9 HB C10 B3 P3 D3 HN HM HZ1 HZ2 HI HZ9
            go_wp2
            go_loopw [101] (fun vi wr => ∃ k : Nat, k ≤ l.length ∧ vi = .int .i64 k ∧ Hid (Below w10.heap.size w10 wr)) (fun vi _ => l.length - (intOf vi).toNat)
            case atStart => exact ⟨0, Nat.zero_le _, rfl, D10⟩
            case round =>
              clear D10
              obtain ⟨k, hk, rfl, HB⟩ := hrel
              by_cases hlt : k < l.length
              · have hki : (k : Int) < l.length := Int.ofNat_lt.2 hlt
                have hkw : IntKind.i64.wrap ((k : Int) + 1) = (k : Int) + 1 := wrap_up2 (by have := HL.out; omega)
                obtain ⟨a7, c7, he7, hcx7⟩ := I10.out
                obtain ⟨b7, o7, ha7, hb7, hc7⟩ := hcx7 (by omega)
                have hae : a = some ⟨b7, o7, none⟩ := by rw [← ha7]; injection he7
                obtain ⟨a8, c8, he8, hcx8⟩ := R10.out
                obtain ⟨b8, o8, ha8, hb8, hc8⟩ := hcx8 (List.ne_nil_of_length_pos (by have := HR1.out; omega))
                have hae8 : A = some ⟨b8, o8, none⟩ := by rw [← ha8]; injection he8
                have hcell := (HB.out.cell (p := ⟨b7, o7 + k, none⟩) hb7).trans (hc7 k hlt)
                have hcell8 := (HB.out.cell (p := ⟨b8, o8 + k, none⟩) hb8).trans (hc8 k (by have := HR1.out; omega))
                rw [HR2.out k hlt] at hcell8
                rw [at_get hlt] at hcell
                have HC8 := Lib.hid hcell8
                have HPK := Lib.hid (HPM.out k hlt)
                rw [at_get hlt] at HPK
                have HA := Lib.hid (HAT.out k hlt wr)
                rw [HA1.out k hlt] at HA
                dsimp only at HA
                have HB8 := Lib.hid (Nat.lt_of_lt_of_le hb8 HB.out.size)
                generalize l[k] = x at *
                clear hcx7 hcx8 he7 he8 ha7 ha8 hc7 hc8 hcell8 hb8
                subst hae
                subst hae8
                have hxx : (x.toList == x.toList) = true := by simp
                have hkk : ((k : Int) == (k : Int)) = true := by simp
                go_wp2_with fail
                refine HA.out.mono ?_
                rintro e w11 ⟨rfl, hb⟩
                have B11 := Lib.hid (HB.out.trans (hb.mono HB.out.size))
                have P11 := Lib.hid (P10.out.onto B11.out).at
                have HZ := Lib.hid (hasz_any P (by have := HPL.out; omega) (k : Int) _ w11 P11.out)
                have hcell9 := (hb.cell (p := ⟨b8, o8 + k, none⟩) HB8.out).trans HC8.out
                clear hb HA HB hcell
                by_cases hxu : x = u
                · have hq := eq_yes hxu
                  have hd : decide ((k : Int) ∈ P) = true := decide_eq_true (HPK.out.2 hxu)
                  rw [hd] at HZ
                  clear hxu hd HPK
                  go_wp2_with fail
                  refine HZ.out.mono ?_
                  rintro e w12 ⟨rfl, rfl⟩
                  go_wp2
                  go_roundw
                  case rel => exact ⟨k + 1, by omega, by go_num, B11⟩
                  case measure => simp [intOf]; omega
                · have hq := eq_no hxu
                  have hd : decide ((k : Int) ∈ P) = false := decide_eq_false (fun h => hxu (HPK.out.1 h))
                  rw [hd] at HZ
                  clear hxu hd HPK
                  go_wp2_with fail
                  refine HZ.out.mono ?_
                  rintro e w12 ⟨rfl, rfl⟩
                  go_wp2
                  go_roundw
                  case rel => exact ⟨k + 1, by omega, by go_num, B11⟩
                  case measure => simp [intOf]; omega
              · obtain rfl : k = l.length := by omega
                have HE := Lib.hid (HAE.out wr)
                have B12 := Lib.hid (B10.out.trans (HB.out.mono B10.out.size))
                have hem : ((⟨#[]⟩ : BA).toList == (⟨#[]⟩ : BA).toList) = true := by simp
                have hem2 : (⟨#[]⟩ : BA).toList.isEmpty = true := emp_true rfl
                clear HB HAE
                go_wp2_with fail
                refine HE.out.mono ?_
                rintro e w13 ⟨rfl, hb⟩
                have B13 := Lib.hid (B12.out.trans (hb.mono B12.out.size))
                clear hb HE
                go_wp2_with fail
                refine (awake_any _).mono ?_
                rintro e wz ⟨rfl, hb⟩
                have BZ := Lib.hid (B13.out.trans (hb.mono B13.out.size))
                clear hb
                go_wp2
                go_ret
                exact ⟨rfl, BZ.out⟩
      · rw [e1] at HE
        dsimp only at HE
        clear e1
        go_wp2_with fail
        refine HE.out.mono ?_
        rintro e w1 ⟨rfl, hb⟩
        have B1 := Lib.hid (B0.out.trans (hb.mono B0.out.size))
        clear hb B0 HE
        go_wp2_with fail
        refine (awake_any _).mono ?_
        rintro e wz ⟨rfl, hb⟩
        have BZ := Lib.hid (B1.out.trans (hb.mono B1.out.size))
        clear hb
        go_wp2
        go_ret
        exact ⟨rfl, BZ.out⟩
end Go.Proofs.Ytpinmmmbmhfmiaa.Dt
