/- Layer 10: the walk of Long. -/
import Derived.Test.YtpinmmmbmhfmiaaDtP
set_option linter.unusedVariables false
set_option linter.unusedSimpArgs false
namespace Go.Proofs.Ytpinmmmbmhfmiaa.Dt
open Go.RowKit Go.Sort Dc
theorem wrap_up {j : Nat} (h : j ≤ 1000000) : IntKind.i64.wrap ((j : Int) + 1) = (j : Int) + 1 := IntWalk.i64_in _ (by omega)
/-- A list of numbers of 16 bits that lies below B. -/
def U16s (B : Nat) (w : World) (v : Value) (ns : List Nat) : Prop :=
  ∃ a cap, v = .slice a ns.length cap ∧ (0 < ns.length → ∃ b off, a = some ⟨b, off, none⟩ ∧ b < B ∧ ∀ j, j < ns.length → w.cell? ⟨b, off + j, none⟩ = some (.int .u16 (ns[j]?.getD 0 : Nat)) ∧ ns[j]?.getD 0 ≤ 65535)
theorem U16s.below {B : Nat} {w w' : World} {v : Value} {ns : List Nat} (h : U16s B w v ns) (hb : Below B w w') : U16s B w' v ns := by
  obtain ⟨a, cap, e, h⟩ := h
  refine ⟨a, cap, e, fun hp => ?_⟩
  obtain ⟨b, off, e2, hlt, hc⟩ := h hp
  exact ⟨b, off, e2, hlt, fun j hj => ⟨(hb.cell (p := ⟨b, off + j, none⟩) hlt).trans (hc j hj).1, (hc j hj).2⟩⟩
set_option maxHeartbeats 2000000 in
set_option maxRecDepth 100000 in
theorem long_walk (l : List BA) (hsz : ∀ x ∈ l, x.size ≤ 140737488351232) (sv : Value) (ns : List Nat) (nv : Value) (w : World) (hI : StrsAt w.heap.size w sv l) (hN : U16s w.heap.size w nv ns) : Calls Try.prog 4 #[sv, nv] w fun e w' => e = .returned (.bool true) ∧ Below w.heap.size w w' := by
  obtain ⟨i0, hi, hz0, hz1, hz2⟩ := info_parts infoS
  have B0 := Lib.hid (Below.refl w.heap.size w)
  have HI := Lib.hid hI
  have HNN := Lib.hid hN
  by_cases h4 : 4 < l.length
  · have h4i : (4 : Int) < l.length := by omega
    obtain ⟨a, cap, rfl, hx1⟩ := hI
    clear hx1
    obtain ⟨an, capn, rfl, hx2⟩ := hN
    clear hx2
    go_enter Try.func4, Try.ntmps4
    go_wp2_with fail
    refine (awake_any _).mono ?_
    rintro e wz ⟨rfl, hb⟩
    have BZ := Lib.hid (B0.out.trans (hb.mono B0.out.size))
    clear hb
    go_wp2
    go_ret
    exact ⟨rfl, BZ.out⟩
  · have h4i : ¬ (4 : Int) < l.length := by omega
    by_cases h12 : 12 < ns.length
    · have h12i : (12 : Int) < ns.length := by omega
      obtain ⟨a, cap, rfl, hx1⟩ := hI
      clear hx1
      obtain ⟨an, capn, rfl, hx2⟩ := hN
      clear hx2
      go_enter Try.func4, Try.ntmps4
      go_wp2_with fail
      refine (awake_any _).mono ?_
      rintro e wz ⟨rfl, hb⟩
      have BZ := Lib.hid (B0.out.trans (hb.mono B0.out.size))
      clear hb
      go_wp2
      go_ret
      exact ⟨rfl, BZ.out⟩
    · have h12i : ¬ (12 : Int) < ns.length := by omega
      have HC := Lib.hid (anyB_any l (by omega) sv w hI)
      obtain ⟨an, capn, rfl, hx2⟩ := hN
      clear hx2
      obtain ⟨a, cap, rfl, hx1⟩ := hI
      clear hx1
      cases hz : l.any (longS 1100) with
      | true =>
        rw [hz] at HC
        clear hz
        go_enter Try.func4, Try.ntmps4
        go_wp2_with fail
        refine HC.out.mono ?_
        rintro e w1 ⟨rfl, rfl⟩
        go_wp2_with fail
        refine (awake_any _).mono ?_
        rintro e wz ⟨rfl, hb⟩
        have BZ := Lib.hid (B0.out.trans (hb.mono B0.out.size))
        clear hb
        go_wp2
        go_ret
        exact ⟨rfl, BZ.out⟩
      | false =>
        have HSM := Lib.hid (any_long_no hz)
        rw [hz] at HC
        clear hz
        go_enter Try.func4, Try.ntmps4
        go_wp2_with fail
        refine HC.out.mono ?_
        rintro e w1 ⟨rfl, rfl⟩
        have O0 : Hid (OwnS w.heap.size w (.slice none 0 0) []) := Lib.hid (OwnS.nil_ _ _)
        clear HC
        go_wp2
        go_loopw [5, 27] (fun vl vi wr => ∃ (k : Nat) (L : List BA) (A : Option Addr) (c : Nat), k ≤ ns.length ∧ vi = .int .i64 k ∧ vl = .slice A L.length c ∧ Hid (L.length ≤ 2100) ∧ Hid (OwnS w.heap.size wr (.slice A L.length c) L) ∧ Hid (∀ x ∈ L, x.size ≤ 1100) ∧ Hid (Below w.heap.size w wr))
          (fun _ vi _ => ns.length - (intOf vi).toNat)
        case atStart => exact ⟨0, [], _, _, Nat.zero_le _, rfl, rfl, Lib.hid (Nat.zero_le _), O0, Lib.hid (fun x hx => by cases hx), B0⟩
        case round =>
          clear O0 B0
          obtain ⟨k, L, A, c, hk, rfl, rfl, HL, HO, HS, HB⟩ := hrel
          by_cases hlt : k < ns.length
          · obtain ⟨an', capn', he, hcx⟩ := HNN.out
            obtain ⟨bn, on, ha, hbn, hcn⟩ := hcx (by omega)
            have hae : an = some ⟨bn, on, none⟩ := by rw [← ha]; injection he
            subst hae
            obtain ⟨hc1, hc2⟩ := hcn k hlt
            have hcell := (HB.out.cell (p := ⟨bn, on + k, none⟩) hbn).trans hc1
            obtain ⟨m, hm⟩ : ∃ m, ns[k]?.getD 0 = m := ⟨_, rfl⟩
            rw [hm] at hcell hc2
            have hki : (k : Int) < ns.length := by omega
            have hwm : IntKind.i64.wrap (m : Int) = m := IntWalk.i64_in _ (by omega)
            obtain ⟨t, ht⟩ : ∃ t, m % 2101 = t := ⟨_, rfl⟩
            have htm : (m : Int).tmod 2101 = (t : Int) := by rw [← ht]; exact (Int.ofNat_tmod m 2101).symm
            have htw : IntKind.i64.wrap (t : Int) = t := IntWalk.i64_in _ (by omega)
            have HT2 : Hid (t ≤ 2100) := Lib.hid (by omega)
            have hw2 : IntKind.i64.wrap ((k : Int) + 1) = (k : Int) + 1 := wrap_up (Nat.le_trans hk (Nat.le_trans (Nat.le_of_not_lt h12) (by decide)))
            clear hcx he ha hcn hc1 hm ht
            go_wp2
            go_loopw [5, 35] (fun vl vj wx => ∃ (j : Nat) (M : List BA) (A : Option Addr) (c : Nat), j ≤ t ∧ vj = .int .i64 j ∧ vl = .slice A M.length c ∧ Hid (M.length ≤ 2100) ∧ Hid (OwnS w.heap.size wx (.slice A M.length c) M) ∧ Hid (∀ x ∈ M, x.size ≤ 1100) ∧ Hid (Below w.heap.size w wx))
              (fun _ vj _ => t - (intOf vj).toNat)
            case atStart => exact ⟨0, L, A, c, Nat.zero_le _, rfl, rfl, HL, HO, HS, HB⟩
            case round =>
              clear HO HS HB hcell HL htm htw hwm h4i h12i HNN hki
              obtain ⟨j, M, A2, c2, hj, rfl, rfl, HM, HO, HS, HB⟩ := hrel
              by_cases hjt : j < t
              · have hji : (j : Int) < t := Int.ofNat_lt.2 hjt
                have hw3 : IntKind.i64.wrap ((j : Int) + 1) = (j : Int) + 1 := wrap_up (Nat.le_trans (Nat.le_of_lt hjt) (Nat.le_trans HT2.out (by decide)))
                by_cases hgo : 0 < l.length ∧ M.length < 2100
                · obtain ⟨hg1, hg2⟩ := hgo
                  have hg1i : (0 : Int) < l.length := by omega
                  have hg2i : (M.length : Int) < 2100 := by omega
                  obtain ⟨a', cap', he, hcx⟩ := HI.out
                  obtain ⟨b, o, ha, hb, hcc⟩ := hcx hg1
                  have hae : a = some ⟨b, o, none⟩ := by rw [← ha]; injection he
                  subst hae
                  obtain ⟨q, hq⟩ : ∃ q, k % l.length = q := ⟨_, rfl⟩
                  have hql : q < l.length := by rw [← hq]; exact Nat.mod_lt _ hg1
                  have hqm : (k : Int).tmod (l.length : Int) = (q : Int) := by rw [← hq]; exact (Int.ofNat_tmod k l.length).symm
                  have hqw : IntKind.i64.wrap (q : Int) = q := IntWalk.i64_in _ (by omega)
                  have hqi : (q : Int) < l.length := by omega
                  have hn0 : ((l.length : Int) == 0) = false := by rw [beq_eq_false_iff_ne]; omega
                  have hn1 : ¬ (l.length : Int) = 0 := by omega
                  have hn2 : ¬ l.length = 0 := by omega
                  have hcell := (HB.out.cell (p := ⟨b, o + q, none⟩) hb).trans (hcc q hql)
                  have HSX : Hid (l[q]?.getD ⟨#[]⟩ ∈ l) := Lib.hid (by rw [at_get hql]; exact List.getElem_mem hql)
                  obtain ⟨x, hx⟩ : ∃ x, l[q]?.getD ⟨#[]⟩ = x := ⟨_, rfl⟩
                  rw [hx] at hcell HSX
                  have HS2 : Hid (∀ y ∈ M ++ [x], y.size ≤ 1100) := Lib.hid fun y hy => by
                    rcases List.mem_append.1 hy with h | h
                    · exact HS.out y h
                    · rw [List.mem_singleton] at h
                      rw [h]
                      exact HSM.out x HSX.out
                  have HJ := Lib.hid hjt
                  have HK := Lib.hid hlt
                  have HG2 := Lib.hid hg2
                  clear hcx hcc he ha hx hq HS hlt hk h4 h12 hsz hjt hj hg1 hg2
                  go_wp2_with (at_builtin; refine wpList_append_own _ rfl _ _ 22 rfl w.heap.size 9 i0 (.string ⟨#[]⟩) 1 16 Try.underlying22 hi hz0 hz1 hz2 rfl (by decide) _ M.length _ rfl (World.ownsRow.alloc HO.out _) ⟨wr.heap.size, 0, none⟩ 1 1 [.string x] rfl rfl (cell_one_new _ _ _) (by simp [Value.oneCell']) (by have := HM.out; unfold maxLen; omega) (by have := HM.out; omega) (by have := HB.out.size; simp; omega) ?_; intro v4 w4 hown4 hgrow4 _; obtain ⟨g, cap4, rfl⟩ := ownsRow_succ hown4; have B4 := Lib.hid ((HB.out.alloc HB.out.size _).grown hgrow4 (by have := HB.out.size; simp; omega) (fun k hk => (World.ownsRow.lt HO.out k hk).1)); have O4 := Lib.hid hown4; clear hown4 hgrow4)
                  go_roundw
                  case rel => exact ⟨j + 1, M ++ [x], some ⟨g, 0, none⟩, cap4, by have := HJ.out; omega, by go_num, by rw [List.length_append]; rfl, Lib.hid (by have := HG2.out; rw [List.length_append]; simp; omega), Lib.hid (by unfold OwnS; rw [sc_snoc, List.length_append]; exact O4.out), HS2, B4⟩
                  case measure => have := HJ.out; simp [intOf]; omega
                · have key : (¬ (0 : Int) < l.length) ∨ ((0 : Int) < l.length ∧ ¬ (M.length : Int) < 2100) := by omega
                  have HJ := Lib.hid hjt
                  clear hgo hlt hk h4 h12 hsz hjt hj
                  rcases key with h1 | ⟨h1, h2⟩
                  · go_wp2
                    go_roundw
                    case rel => exact ⟨j + 1, M, A2, c2, by have := HJ.out; omega, by go_num, rfl, HM, HO, HS, HB⟩
                    case measure => have := HJ.out; simp [intOf]; omega
                  · go_wp2
                    go_roundw
                    case rel => exact ⟨j + 1, M, A2, c2, by have := HJ.out; omega, by go_num, rfl, HM, HO, HS, HB⟩
                    case measure => have := HJ.out; simp [intOf]; omega
              · obtain rfl : j = t := by omega
                go_wp2
                go_roundw
                case rel => exact ⟨k + 1, M, A2, c2, by omega, by go_num, rfl, HM, HO, HS, HB⟩
                case measure => simp [intOf]; omega
          · obtain rfl : k = ns.length := by omega
            have HE := Lib.hid (Encode_any L (by have := HL.out; omega) (fun x hx => by have := HS.out x hx; omega) _ wr (OwnS.strs HO.out).at)
            unfold EncQ at HE
            have HR := Lib.hid fun wy (hb : Below wr.heap.size wr wy) => enc_ref_any L (by have := HL.out; omega) (fun x hx => by have := HS.out x hx; omega) _ wy ((OwnS.strs HO.out).at.onto hb)
            unfold EncQ at HR
            obtain ⟨E, hE⟩ : ∃ E, encO L = E := ⟨_, rfl⟩
            rw [hE] at HE HR
            obtain ⟨t, ec⟩ := E
            dsimp only at HE HR
            generalize (⟨t.toArray⟩ : BA) = y at *
            have hyy : (y.toList == y.toList) = true := by simp
            have hee : (ec == ec) = true := by simp
            clear hE
            go_wp2_with fail
            refine HE.out.mono ?_
            rintro e w2 ⟨rfl, hb2⟩
            have HR2 := Lib.hid (HR.out w2 hb2)
            have B2 := Lib.hid (HB.out.trans (hb2.mono HB.out.size))
            clear hb2 HE HR
            go_wp2_with fail
            refine HR2.out.mono ?_
            rintro e w3 ⟨rfl, hb3⟩
            have B3 := Lib.hid (B2.out.trans (hb3.mono B2.out.size))
            clear hb3 HR2 B2
            go_wp2_with fail
            refine (awake_any _).mono ?_
            rintro e wz ⟨rfl, hb⟩
            have BZ := Lib.hid (B3.out.trans (hb.mono B3.out.size))
            clear hb
            go_wp2
            go_ret
            exact ⟨rfl, BZ.out⟩
end Go.Proofs.Ytpinmmmbmhfmiaa.Dt
