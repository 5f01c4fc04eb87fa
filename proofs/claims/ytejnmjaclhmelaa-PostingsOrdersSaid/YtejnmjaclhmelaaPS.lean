/- Layer 8: the walk of the law PostingsOrders. -/
import Derived.Test.YtejnmjaclhmelaaPN
import Derived.Test.YtejnmjaclhmelaaRV
set_option linter.unusedVariables false
set_option linter.unusedSimpArgs false
namespace Go.Proofs.Ytejnmjaclhmelaa.Po
open Go.RowKit
theorem ord1_any (l : List Int) (hl : l.length ≤ 1000000) (sv : Value) (w : World) (hI : Ints w.heap.size w sv l) :
    Calls Try.prog 34 #[sv] w fun e w' => e = .returned (.bool (invB l)) ∧ Below w.heap.size w w' := by
  have HM := Lib.hid (gCheck_any l hl sv w hI)
  unfold invB
  obtain ⟨a, ca, rfl, _⟩ := hI
  generalize chk l = c at *
  go_enter Try.func34, Try.ntmps34
  go_wp2_with fail
  refine HM.out.mono ?_
  rintro e w4 ⟨rfl, hb4⟩
  have B4 := Lib.hid hb4
  clear hb4
  go_wp2
  go_ret
  exact ⟨rfl, B4.out⟩
theorem all_step {ls : List (List Int)} (h : ∀ l ∈ ls, chk l = 0) {k : Nat} (hk : k < ls.length) : orO (mrgL (ls.take k)) (ls[k]?.getD []) = mrgL (ls.take (k + 1)) := by
  have e : ls.take (k + 1) = ls.take k ++ [ls[k]?.getD []] := by rw [List.take_add_one, List.getElem?_eq_getElem hk]; rfl
  have h1 : Val (mrgL (ls.take k)) := mrgL_val fun l hl => chk_zero.1 (h l (List.mem_of_mem_take hl))
  have h2 : Val (ls[k]?.getD []) := chk_zero.1 (h _ (at_memL hk))
  have h3 : orO (mrgL (ls.take k)) (ls[k]?.getD []) = orL (mrgL (ls.take k)) (ls[k]?.getD []) := mrgO_ok fun l hl => by
    simp only [List.mem_cons, List.not_mem_nil, or_false] at hl
    rcases hl with rfl | rfl
    · exact chk_zero.2 h1
    · exact chk_zero.2 h2
  rw [h3]
  refine asc_eq (h1.or_ h2).2 (mrgL_val fun l hl => chk_zero.1 (h l (List.mem_of_mem_take hl))).2 fun x => ?_
  rw [mem_or, mem_mrg, mem_mrg, e]
  constructor
  · rintro (⟨l, hl, hx⟩ | hx)
    · exact ⟨l, List.mem_append.2 (.inl hl), hx⟩
    · exact ⟨_, List.mem_append.2 (.inr (List.mem_singleton.2 rfl)), hx⟩
  · rintro ⟨l, hl, hx⟩
    rcases List.mem_append.1 hl with hl | hl
    · exact .inl ⟨l, hl, hx⟩
    · rw [List.mem_singleton] at hl
      subst hl
      exact .inr hx
theorem tot_rev (ls : List (List Int)) : tot ls.reverse = tot ls := by
  unfold tot
  rw [List.map_reverse, List.sum_reverse]
set_option maxHeartbeats 8000000 in
set_option maxRecDepth 100000 in
theorem orders_walk (ls : List (List Int)) (sv : Value) (w : World) (hl0 : ls.length ≤ maxLen) (hM : IntsM w.heap.size w sv ls) :
    Calls Try.prog 9 #[sv] w fun e w' => e = .returned (.bool true) ∧ Below w.heap.size w w' := by
  have CG := Lib.hid (great_any ls hl0 _ _ hM.2)
  have CA := Lib.hid awake_any
  have B0 := Lib.hid (Below.refl w.heap.size w)
  cases hg : greatB ls with
  | true =>
    rw [hg] at CG
    clear hg
    obtain ⟨⟨a, cap, rfl, _⟩, _⟩ := hM
    go_enter Try.func9, Try.ntmps9
    go_wp2_with fail
    refine CG.out.mono ?_
    rintro e w1 ⟨rfl, rfl⟩
    go_wp2_with fail
    refine (CA.out _).mono ?_
    rintro e w2 ⟨rfl, hb2⟩
    have B2 := Lib.hid hb2
    clear hb2
    go_wp2
    go_ret
    exact ⟨rfl, B2.out⟩
  | false =>
    have ht := great_tot hg
    have hl : ls.length ≤ 8 := (great_no hg).1
    rw [hg] at CG
    have CO := Lib.hid (ordAny_any (Lib.hid fun l sv v h1 h2 => ord1_any l h1 sv v h2) ls (by omega) (by omega) sv w hM.2)
    cases hq : ls.any invB with
    | true =>
      rw [hq] at CO
      clear hq hg ht hl hl0
      obtain ⟨⟨a, cap, rfl, _⟩, _⟩ := hM
      go_enter Try.func9, Try.ntmps9
      go_wp2_with fail
      refine CG.out.mono ?_
      rintro e w1 ⟨rfl, rfl⟩
      go_wp2_with fail
      refine CO.out.mono ?_
      rintro e w2 ⟨rfl, hb2⟩
      have B2 := Lib.hid hb2
      clear hb2
      go_wp2_with fail
      refine (CA.out _).mono ?_
      rintro e w3 ⟨rfl, hb3⟩
      have B3 := Lib.hid (B2.out.trans (hb3.mono B2.out.size))
      clear hb3
      go_wp2
      go_ret
      exact ⟨rfl, B3.out⟩
    | false =>
      have hz := any_inv hq
      rw [hq] at CO
      have HS := Lib.hid (fun k hk => @all_step ls hz k hk)
      have ml : ∀ k, (mrgL (ls.take k)).length ≤ 320 := fun k => by
        have h1 := mrgL_len (ls.take k)
        have h2 := tot_take ls k
        omega
      have ll : ∀ j, j < ls.length → (ls[j]?.getD []).length ≤ 320 := fun j hj => by
        have := len_tot hj
        omega
      have KO : Hid (∀ k v va vk, k < ls.length → Ints v.heap.size v va (mrgL (ls.take k)) → Ints v.heap.size v vk (ls[k]?.getD []) → Calls Try.prog 19 #[va, vk] v (IntsOut v (mrgL (ls.take (k + 1))))) := Lib.hid fun k v va vk hk h1 h2 => by
        rw [← HS.out k hk]
        exact gOr_any _ _ (by have := ml k; omega) (by have := ll k hk; omega) va vk v h1 h2
      have hend : mrgL (ls.take ls.length) = mrgL ls := by rw [List.take_of_length_le (Nat.le_refl _)]
      have hm1 : mrgO ls = mrgL ls := mrgO_ok hz
      have hz2 : ∀ l ∈ ls.reverse, chk l = 0 := fun l hl => hz l (List.mem_reverse.1 hl)
      have hm2 : mrgO ls.reverse = mrgL ls := (mrgO_ok hz2).trans (mrg_perm (fun l => List.mem_reverse) fun l hl => chk_zero.1 (hz2 l hl))
      have KM : Hid (∀ v, Below w.heap.size w v → Calls Try.prog 25 #[sv] v (IntsOut v (mrgL ls))) := Lib.hid fun v hb => by
        rw [← hm1]
        exact gMerge_any ls (by omega) (by omega) sv v (hM.onto hb)
      have KR : Hid (∀ v sb, IntsM v.heap.size v sb ls.reverse → Calls Try.prog 25 #[sb] v (IntsOut v (mrgL ls))) := Lib.hid fun v sb h => by
        rw [← hm2]
        exact gMerge_any ls.reverse (by rw [List.length_reverse]; omega) (by rw [tot_rev]; omega) sb v h
      have KS : Hid (∀ v sx sy, Ints v.heap.size v sx (mrgL ls) → Ints v.heap.size v sy (mrgL ls) → Calls Try.prog 16 #[sx, sy] v fun e w' => e = .returned (.bool true) ∧ Below v.heap.size v w') := Lib.hid fun v sx sy h1 h2 => same_yes _ _ rfl (by have := ml ls.length; rw [hend] at this; omega) sx sy v h1 h2
      have KC : Hid (∀ v, Below w.heap.size w v → Calls Try.prog 35 #[sv] v fun e w' => (∃ v' D, e = .returned v' ∧ RowL v.heap.size w' v' D ∧ Descs v.heap.size w' D ls) ∧ Below v.heap.size v w') := Lib.hid fun v hb => cloneL_any ls (by omega) sv v (hM.onto hb)
      have KV : Hid (∀ (B : Nat) (D : List Sl3) (sb : Value) (v : World), D.length = ls.length → B ≤ v.heap.size → RowL B v sb D → Calls Try.prog 36 #[sb] v fun e w' => e = .returned (.tuple #[]) ∧ RowL B w' sb D.reverse ∧ Below B v w') := Lib.hid fun B D sb v h1 h2 h3 => revL_any B D (by omega) sb v h2 h3
      have HE := Lib.hid hend
      obtain ⟨⟨a, cap, rfl, _⟩, hIL⟩ := hM
      obtain ⟨a2, cap2, ea, V, h1, h2⟩ := hIL
      injection ea with ea1 ea2 ea3
      subst ea1 ea3
      have HC := Lib.hid h1
      have HV := Lib.hid h2
      clear h1 h2 ea2 hz hz2 hm1 hm2 hend ml ll hq hg ht hl0 HS
      go_enter Try.func9, Try.ntmps9
      go_wp2_with fail
      refine CG.out.mono ?_
      rintro e w1 ⟨rfl, rfl⟩
      go_wp2_with fail
      refine CO.out.mono ?_
      rintro e w2 ⟨rfl, hb2⟩
      have B2 := Lib.hid hb2
      have B3 : Hid (Below w.heap.size w (w2.alloc (.cells #[] 3))) := Lib.hid (B2.out.alloc B2.out.size _)
      have I3 : Hid (Ints (w2.alloc (.cells #[] 3)).heap.size (w2.alloc (.cells #[] 3)) (.slice (some ⟨w2.heap.size, 0, none⟩) 0 0) (mrgL (ls.take 0))) := Lib.hid (Ints.empty (Nat.le_refl _) (by simp))
      clear hb2 CO CG
      go_wp2
      go_loopw [3, 17] (fun va vi wr => ∃ k : Nat, k ≤ ls.length ∧ vi = .int .i64 k ∧ Hid (Ints wr.heap.size wr va (mrgL (ls.take k))) ∧ Hid (Below w.heap.size w wr))
        (fun _ vi _ => ls.length - (intOf vi).toNat)
      case atStart => exact ⟨0, Nat.zero_le _, rfl, I3, B3⟩
      case round =>
        clear B2 B3 I3
        obtain ⟨k, hk, rfl, HO, HB⟩ := hrel
        by_cases hlt : k < ls.length
        · obtain ⟨b, o, rfl, hb, hc⟩ := HC.out (by omega)
          have hcell := (HB.out.cell (p := ⟨b, o + k, none⟩) (by simp; omega)).trans (hc k hlt)
          have hi' : (k : Int) < ls.length := by omega
          have HVi := Lib.hid ((HV.out k hlt).onto HB.out)
          have HK := Lib.hid (fun v va vk => KO.out k v va vk hlt)
          clear hc
          generalize V k = vk at *
          go_wp2_with fail
          refine (HK.out _ _ _ HO.out HVi.out).mono ?_
          rintro e w4 ⟨v4, rfl, h4, hb4⟩
          have I4 := Lib.hid h4
          have B4 := Lib.hid (HB.out.trans (hb4.mono HB.out.size))
          clear h4 hb4
          go_wp2
          go_roundw
          case rel => exact ⟨k + 1, by omega, by go_num, I4, B4⟩
          case measure => simp [intOf]; omega
        · have hke : k = ls.length := by omega
          have hO : Hid (Ints wr.heap.size wr u3 (mrgL ls)) := Lib.hid (by
            have := HO.out
            rw [hke, HE.out] at this
            exact this)
          have hnlt : ¬ (k : Int) < ls.length := by omega
          clear HO hke HC HV KO HE hlt
          generalize mrgL ls = lm at *
          go_wp2_with fail
          refine (KC.out _ HB.out).mono ?_
          rintro e w5 ⟨⟨v5, D, rfl, hr5, hd5⟩, hb5⟩
          have R5 := Lib.hid hr5
          have D5 := Lib.hid hd5
          have I5 := Lib.hid (hO.out.below hb5)
          have B5 := Lib.hid (HB.out.trans (hb5.mono HB.out.size))
          have hz5 := hb5.size
          clear hr5 hd5 hb5 hO
          go_wp2_with fail
          refine (KV.out wr.heap.size D v5 _ D5.out.1 hz5 R5.out).mono ?_
          rintro e w6 ⟨rfl, hr6, hb6⟩
          have M6 := Lib.hid (hr6.ints ((D5.out.below hb6).rev.mono (by have := hb6.size; omega)))
          have I6 := Lib.hid ((I5.out.below hb6).mono (by have := hb6.size; omega : wr.heap.size ≤ w6.heap.size))
          have B6 := Lib.hid (B5.out.trans (hb6.mono HB.out.size))
          clear hr6 hb6 R5 D5 I5 B5
          go_wp2_with fail
          refine (KM.out _ B6.out).mono ?_
          rintro e w7 ⟨v7, rfl, h7, hb7⟩
          have I7 := Lib.hid h7
          have I6' := Lib.hid (I6.out.onto hb7)
          have M7 := Lib.hid (M6.out.onto hb7)
          have B7 := Lib.hid (B6.out.trans (hb7.mono B6.out.size))
          clear h7 hb7 I6 M6 B6
          go_wp2_with fail
          refine (KS.out _ _ _ I7.out I6'.out).mono ?_
          rintro e w8 ⟨rfl, hb8⟩
          have I8 := Lib.hid (I6'.out.onto hb8)
          have M8 := Lib.hid (M7.out.onto hb8)
          have B8 := Lib.hid (B7.out.trans (hb8.mono B7.out.size))
          clear hb8 I6' I7 M7 B7
          go_wp2_with fail
          refine (KR.out _ _ M8.out).mono ?_
          rintro e w9 ⟨v9, rfl, h9, hb9⟩
          have I9 := Lib.hid h9
          have I8' := Lib.hid (I8.out.onto hb9)
          have B9 := Lib.hid (B8.out.trans (hb9.mono B8.out.size))
          clear h9 hb9 I8 M8 B8
          go_wp2_with fail
          refine (KS.out _ _ _ I9.out I8'.out).mono ?_
          rintro e w10 ⟨rfl, hb10⟩
          have B10 := Lib.hid (B9.out.trans (hb10.mono B9.out.size))
          clear hb10 B9 I9 I8'
          go_wp2_with fail
          refine (CA.out _).mono ?_
          rintro e w11 ⟨rfl, hb11⟩
          have B11 := Lib.hid (B10.out.trans (hb11.mono B10.out.size))
          clear hb11 B10
          go_wp2
          go_ret
          exact ⟨rfl, B11.out⟩
end Go.Proofs.Ytejnmjaclhmelaa.Po
