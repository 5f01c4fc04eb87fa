/- Layer 10: the walk of Distinct. -/
import Derived.Test.YtpinmmmbmhfmiaaDtU
set_option linter.unusedVariables false
set_option linter.unusedSimpArgs false
namespace Go.Proofs.Ytpinmmmbmhfmiaa.Dt
open Go.RowKit Go.Sort Dc
theorem rev_facts {l : List BA} (h : l.length ≤ 40) : (∃ t1 t2 : BA, encO l = (t1.data.toList, 0) ∧ encO l.reverse = (t2.data.toList, 0) ∧ decO t1.data.toList = (l, 0) ∧ decO t2.data.toList = (l.reverse, 0) ∧ t1.size ≤ 1048576 ∧ t2.size ≤ 1048576) ∨ (encO l = ([], 4) ∧ encO l.reverse = ([], 4)) := by
  by_cases hs : ∀ x ∈ l, x.size ≤ 1000
  · have h1 := enc_small (l := l) (by omega) hs
    have h2 := enc_small (l := l.reverse) (by rw [List.length_reverse]; omega) (fun x hx => hs x (List.mem_reverse.1 hx))
    refine .inl ⟨⟨(encL l).toArray⟩, ⟨(encL l.reverse).toArray⟩, by rw [mk_list]; exact h1, by rw [mk_list]; exact h2, by rw [mk_list]; exact decO_ok h1, by rw [mk_list]; exact decO_ok h2, by rw [mk_size]; exact (encO_inv h1).2.1, by rw [mk_size]; exact (encO_inv h2).2.1⟩
  · exact .inr ⟨encO_bad fun q => hs q.2, encO_bad fun q => hs fun x hx => q.2 x (List.mem_reverse.2 hx)⟩
theorem wrap_up2 {j : Nat} (h : j ≤ 1000000) : IntKind.i64.wrap ((j : Int) + 1) = (j : Int) + 1 := IntWalk.i64_in _ (by omega)
theorem dict_rev (l : List BA) : dict l.reverse = dict l := dict_same fun x => List.mem_reverse
theorem rev_onto {w v : World} {sv : Value} {l : List BA} (h : Strs w.heap.size w sv l) (hb : Below w.heap.size w v) : Strs v.heap.size v sv l := h.onto hb
set_option maxHeartbeats 2000000 in
set_option maxRecDepth 100000 in
theorem distinct_walk (l : List BA) (hsz : ∀ x ∈ l, x.size ≤ 140737488351232) (sv : Value) (w : World) (hI : Strs w.heap.size w sv l) : Calls Try.prog 8 #[sv] w fun e w' => e = .returned (.bool true) ∧ Below w.heap.size w w' := by
  have B0 := Lib.hid (Below.refl w.heap.size w)
  have HG := Lib.hid (great_any l hsz sv w hI.at)
  have HI := Lib.hid hI
  have HSZ := Lib.hid hsz
  obtain ⟨a, cap, hae, hcx⟩ := hI.at
  subst hae
  clear hsz hI hcx
  go_enter Try.func8, Try.ntmps8
  go_wp2_with fail
  refine HG.out.mono ?_
  rintro e w1 ⟨⟨b, rfl, hg⟩, rfl⟩
  clear HG
  cases b with
  | true =>
    go_wp2_with fail
    refine (awake_any _).mono ?_
    rintro e wz ⟨rfl, hb⟩
    have BZ := Lib.hid (B0.out.trans (hb.mono B0.out.size))
    clear hb
    go_wp2
    go_ret
    exact ⟨rfl, BZ.out⟩
  | false =>
    have hl := (hg rfl).1
    clear hg
    have HL := Lib.hid hl
    have HE := Lib.hid (Encode_any l (by omega) HSZ.out _ w HI.out.at)
    have HC := Lib.hid fun v hI => clone_any l (by omega) (.slice a l.length cap) v hI
    have HR := Lib.hid fun B v u hO => rev_any B l (by omega) u v hO
    have HF := Lib.hid fun sv v hI => Encode_any l.reverse (by rw [List.length_reverse]; omega) (fun x hx => HSZ.out x (List.mem_reverse.1 hx)) sv v hI
    unfold EncQ at HE HF
    rcases rev_facts hl with ⟨t1, t2, e1, e2, d1, d2, z1, z2⟩ | ⟨e1, e2⟩
    · rw [e1] at HE
      rw [e2] at HF
      dsimp only at HE HF
      rw [mk_data] at HE HF
      have HD := Lib.hid fun v => Distinct_any t1 (by omega) v
      have HK := Lib.hid fun v => Distinct_any t2 (by omega) v
      unfold DisQ at HD HK
      rw [d1] at HD
      rw [d2] at HK
      dsimp only at HD HK
      rw [dict_rev] at HK
      have HA := Lib.hid (dict_asc l)
      have HM := Lib.hid (dict_mem l)
      have hdl := dict_len l
      have HN : Hid (l.reverse.length = l.length) := Lib.hid List.length_reverse
      obtain ⟨D, hD⟩ : ∃ D, dict l = D := ⟨_, rfl⟩
      rw [hD] at HD HK HA HM hdl
      obtain ⟨m, hm⟩ : ∃ m, l.reverse = m := ⟨_, rfl⟩
      rw [hm] at HR HF HN
      have hd40 : D.length ≤ 40 := by omega
      clear e1 e2 d1 d2 z1 z2 hD hm hdl
      go_wp2_with fail
      refine HE.out.mono ?_
      rintro e w1 ⟨rfl, hb⟩
      have B1 := Lib.hid (B0.out.trans (hb.mono B0.out.size))
      have I1 := Lib.hid (HI.out.onto hb)
      have C1 := Lib.hid (HC.out w1 I1.out)
      clear hb B0 HE
      go_wp2_with fail
      refine C1.out.mono ?_
      rintro e w2 ⟨v2, rfl, ho, hb⟩
      have B2 := Lib.hid (B1.out.trans (hb.mono B1.out.size))
      have I2 := Lib.hid (I1.out.onto hb)
      have R2 := Lib.hid (HR.out w1.heap.size w2 v2 ho)
      have G2 : Hid (∀ g, v2.ownBlock = some g → w1.heap.size ≤ g) := Lib.hid fun g hg => (World.ownsRow.lt ho g hg).1
      obtain ⟨A2, c2, rfl⟩ := own_form ho
      clear hb ho C1
      go_wp2_with fail
      refine R2.out.mono ?_
      rintro e w3 ⟨rfl, ho, hg⟩
      have B3 := Lib.hid (B2.out.grown hg B2.out.size (fun g e => Nat.le_trans B1.out.size (G2.out g e)))
      have F3 := Lib.hid (HF.out _ w3 (OwnS.strs ho).at)
      clear ho hg R2 G2 I2 I1 B2 B1 HF
      go_wp2_with fail
      refine F3.out.mono ?_
      rintro e w4 ⟨rfl, hb⟩
      have B4 := Lib.hid (B3.out.trans (hb.mono B3.out.size))
      clear hb F3 B3
      go_wp2_with fail
      refine (HD.out w4).mono ?_
      rintro e w5 ⟨v5, rfl, ho, hb⟩
      have B5 := Lib.hid (B4.out.trans (hb.mono B4.out.size))
      have D5 := Lib.hid (OwnS.strs ho).at
      obtain ⟨A5, c5, rfl⟩ := own_form ho
      clear hb ho B4 HD
      go_wp2_with fail
      refine (HK.out w5).mono ?_
      rintro e w6 ⟨v6, rfl, ho, hb⟩
      have B6 := Lib.hid (B5.out.trans (hb.mono B5.out.size))
      have D6 := Lib.hid (D5.out.onto hb)
      have E6 := Lib.hid (OwnS.strs ho).at
      have I6 := Lib.hid (HI.out.onto B6.out).at
      obtain ⟨A6, c6, rfl⟩ := own_form ho
      clear hb ho B5 D5 HK HI HSZ HC HR
      go_wp2
      go_loop [57] (fun vi => ∃ k : Nat, k ≤ D.length ∧ vi = .int .i64 k) (fun vi => D.length - (intOf vi).toNat)
      case atStart => exact ⟨0, Nat.zero_le _, rfl⟩
      case round =>
        obtain ⟨k, hk, rfl⟩ := hrel
        by_cases hlt : k < D.length
        · have hki : (k : Int) < D.length := Int.ofNat_lt.2 hlt
          have hkw : IntKind.i64.wrap ((k : Int) + 1) = (k : Int) + 1 := wrap_up2 (by omega)
          obtain ⟨a5, c5', he5, hcx5⟩ := D6.out
          obtain ⟨b5, o5, ha5, hb5, hc5⟩ := hcx5 (by omega)
          have hae : A5 = some ⟨b5, o5, none⟩ := by rw [← ha5]; injection he5
          subst hae
          have hcell := hc5 k hlt
          rw [at_get hlt] at hcell
          have hin : decide (0 ≤ idxI D[k] l) = true := decide_eq_true (idxI_ge.2 ((HM.out _).1 (List.getElem_mem hlt)))
          have HH := Lib.hid (has_any l (by omega) D[k] _ w6 I6.out)
          rw [hin] at HH
          by_cases h0 : k = 0
          · subst h0
            rw [Nat.add_zero] at hcell
            have hki0 : (0 : Int) < D.length := by omega
            generalize D[0] = x at *
            clear hcx5 he5 ha5 hc5 hin
            go_wp2_with fail
            refine HH.out.mono ?_
            rintro e w7 ⟨rfl, rfl⟩
            go_wp2
            go_round
            case rel => exact ⟨1, by omega, rfl⟩
            case measure => simp [intOf]; omega
          · obtain ⟨q, hq⟩ : ∃ q, q + 1 = k := ⟨k - 1, by omega⟩
            have hql : q < D.length := by omega
            have hcq := hc5 q hql
            rw [at_get hql] at hcq
            have hkq : IntKind.i64.wrap ((k : Int) - 1) = (q : Int) := by rw [IntWalk.i64_in _ (by omega)]; omega
            have hqi : (q : Int) < D.length := Int.ofNat_lt.2 hql
            have hkp : (0 : Int) < k := by omega
            have hlt2 : Op.bytesLess D[q].toList D[k].toList = true := (List.pairwise_iff_getElem.1 HA.out) q k hql hlt (by omega)
            generalize D[k] = x at *
            generalize D[q] = y at *
            clear hcx5 he5 ha5 hc5 hin h0 hq
            go_wp2_with fail
            refine HH.out.mono ?_
            rintro e w7 ⟨rfl, rfl⟩
            go_wp2
            go_round
            case rel => exact ⟨k + 1, by omega, by go_num⟩
            case measure => simp [intOf]; omega
        · obtain rfl : k = D.length := by omega
          go_wp2
          go_loop [82] (fun vi => ∃ k : Nat, k ≤ l.length ∧ vi = .int .i64 k) (fun vi => l.length - (intOf vi).toNat)
          case atStart => exact ⟨0, Nat.zero_le _, rfl⟩
          case round =>
            obtain ⟨k, hk, rfl⟩ := hrel
            by_cases hlt : k < l.length
            · have hki : (k : Int) < l.length := Int.ofNat_lt.2 hlt
              have hkw : IntKind.i64.wrap ((k : Int) + 1) = (k : Int) + 1 := wrap_up2 (by omega)
              obtain ⟨a7, c7, he7, hcx7⟩ := I6.out
              obtain ⟨b7, o7, ha7, hb7, hc7⟩ := hcx7 (by omega)
              have hae : a = some ⟨b7, o7, none⟩ := by rw [← ha7]; injection he7
              subst hae
              have hcell := hc7 k hlt
              rw [at_get hlt] at hcell
              have hin : decide (0 ≤ idxI l[k] D) = true := decide_eq_true (idxI_ge.2 ((HM.out _).2 (List.getElem_mem hlt)))
              have HH := Lib.hid (has_any D (by omega) l[k] _ w6 D6.out)
              rw [hin] at HH
              generalize l[k] = x at *
              clear hcx7 he7 ha7 hc7 hin
              go_wp2_with fail
              refine HH.out.mono ?_
              rintro e w7 ⟨rfl, rfl⟩
              go_wp2
              go_round
              case rel => exact ⟨k + 1, by omega, by go_num⟩
              case measure => simp [intOf]; omega
            · obtain rfl : k = l.length := by omega
              have HS := Lib.hid (same_any_S D D (by omega) _ _ w6 E6.out D6.out)
              rw [sameS_refl] at HS
              go_wp2_with fail
              refine HS.out.mono ?_
              rintro e w7 ⟨rfl, hb⟩
              have B7 := Lib.hid (B6.out.trans (hb.mono B6.out.size))
              clear hb HS
              go_wp2_with fail
              refine (awake_any _).mono ?_
              rintro e wz ⟨rfl, hb⟩
              have BZ := Lib.hid (B7.out.trans (hb.mono B7.out.size))
              clear hb
              go_wp2
              go_ret
              exact ⟨rfl, BZ.out⟩
    · rw [e1] at HE
      rw [e2] at HF
      dsimp only at HE HF
      clear e1 e2
      obtain ⟨m, hm⟩ : ∃ m, l.reverse = m := ⟨_, rfl⟩
      rw [hm] at HR HF
      clear hm
      go_wp2_with fail
      refine HE.out.mono ?_
      rintro e w1 ⟨rfl, hb⟩
      have B1 := Lib.hid (B0.out.trans (hb.mono B0.out.size))
      have C1 := Lib.hid (HC.out w1 (HI.out.onto hb))
      clear hb B0 HE
      go_wp2_with fail
      refine C1.out.mono ?_
      rintro e w2 ⟨v2, rfl, ho, hb⟩
      have B2 := Lib.hid (B1.out.trans (hb.mono B1.out.size))
      have R2 := Lib.hid (HR.out w1.heap.size w2 v2 ho)
      have G2 : Hid (∀ g, v2.ownBlock = some g → w1.heap.size ≤ g) := Lib.hid fun g hg => (World.ownsRow.lt ho g hg).1
      obtain ⟨A2, c2, rfl⟩ := own_form ho
      clear hb ho C1
      go_wp2_with fail
      refine R2.out.mono ?_
      rintro e w3 ⟨rfl, ho, hg⟩
      have B3 := Lib.hid (B2.out.grown hg B2.out.size (fun g e => Nat.le_trans B1.out.size (G2.out g e)))
      have F3 := Lib.hid (HF.out _ w3 (OwnS.strs ho).at)
      clear ho hg R2 G2 B2 B1 HF
      go_wp2_with fail
      refine F3.out.mono ?_
      rintro e w4 ⟨rfl, hb⟩
      have B4 := Lib.hid (B3.out.trans (hb.mono B3.out.size))
      clear hb F3 B3
      go_wp2_with fail
      refine (awake_any _).mono ?_
      rintro e wz ⟨rfl, hb⟩
      have BZ := Lib.hid (B4.out.trans (hb.mono B4.out.size))
      clear hb
      go_wp2
      go_ret
      exact ⟨rfl, BZ.out⟩
end Go.Proofs.Ytpinmmmbmhfmiaa.Dt
