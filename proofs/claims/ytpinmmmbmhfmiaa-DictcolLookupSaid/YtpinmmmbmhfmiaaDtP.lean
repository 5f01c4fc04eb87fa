/- Layer 10: slices.ContainsFunc at strings; the walk of RoundTrip. -/
import Derived.Test.YtpinmmmbmhfmiaaDtO
set_option linter.unusedVariables false
set_option linter.unusedSimpArgs false
namespace Go.Proofs.Ytpinmmmbmhfmiaa.Dt
open Go.RowKit Go.Sort Dc
theorem dicB_len : ∀ (d : List BA) (a : List UInt8), (∀ x ∈ d, x.size ≤ 1000) → (dicB a d).length ≤ 1018 * d.length
  | [], _, _ => Nat.zero_le _
  | x :: d, a, h => by
    have h1 := entB_len a x (h x (List.mem_cons_self ..))
    have h2 := dicB_len d x.data.toList fun y hy => h y (List.mem_cons_of_mem _ hy)
    rw [dicB, List.length_append, List.length_cons]
    omega
theorem runB_len (d : List BA) (hd : d.length ≤ 2000) : ∀ (r : List (BA × Nat)), (∀ p ∈ r, p.1 ∈ d ∧ p.2 ≤ 2000) → (runB d r).length ≤ 18 * r.length
  | [], _ => Nat.zero_le _
  | (x, k) :: r, h => by
    have h0 := h (x, k) (List.mem_cons_self ..)
    dsimp only at h0
    obtain ⟨i, hi, hil, _⟩ := idxI_mem h0.1
    have h2 := runB_len d hd r fun p hp => h p (List.mem_cons_of_mem _ hp)
    have q1 := uv_len9 (m := i) (by omega)
    have q2 := uv_len9 (m := k - 1) (by omega)
    rw [runB_cons, hi, Int.toNat_natCast, List.length_append, List.length_append, List.length_cons]
    unfold uv
    omega
theorem enc_small {l : List BA} (h1 : l.length ≤ 100) (h2 : ∀ x ∈ l, x.size ≤ 1000) : encO l = (encL l, 0) := by
  have hd := dict_len l
  have hr := rle_len l
  have q1 := dicB_len (dict l) [] fun x hx => h2 x ((dict_mem l x).1 hx)
  have q2 := runB_len (dict l) (by omega) (rle l) fun p hp => ⟨(dict_mem l p.1).2 (rle_small l p hp).2, by have := (rle_small l p hp).1; omega⟩
  have q3 := uv_len9 (m := l.length) (by omega)
  have q4 := uv_len9 (m := (dict l).length) (by omega)
  refine encO_ok ⟨by omega, h2⟩ ?_
  unfold encL
  rw [List.length_append, List.length_append, List.length_append]
  unfold uv
  omega
theorem longA_any (x : BA) (w : World) : Calls Try.prog 27 #[.string x] w fun e w' => e = .returned (.bool (longS 1000 x)) ∧ w = w' := by
  go_enter Try.func27, Try.ntmps27
  go_wp2
  go_ret
  exact ⟨ret_bool (by unfold longS; exact decide_eq_decide.2 (by omega)), rfl⟩
set_option maxHeartbeats 2000000 in
set_option maxRecDepth 100000 in
theorem findA_any (l : List BA) (hl : l.length ≤ 1000000) (sv : Value) (w : World) (hI : StrsAt w.heap.size w sv l) :
    Calls Try.prog 40 #[sv, .func (.func 27) #[] #[]] w fun e w' => (∃ k : Int, e = .returned (.int .i64 k) ∧ FoundS 1000 l k ∧ -1 ≤ k) ∧ w = w' := by
  obtain ⟨a, cap, rfl, hcx⟩ := hI
  have HX := Lib.hid hcx
  clear hcx
  go_enter Try.func40, Try.ntmps40
  go_wp2
  go_loop [8] (fun vi => ∃ k : Nat, k ≤ l.length ∧ vi = .int .i64 k ∧ Hid (∀ j (h : j < l.length), j < k → longS 1000 l[j] = false)) (fun vi => l.length - (intOf vi).toNat)
  case atStart => exact ⟨0, Nat.zero_le _, rfl, Lib.hid (fun j _ h => by omega)⟩
  case round =>
    obtain ⟨k, hk, rfl, HP⟩ := hrel
    by_cases hlt : k < l.length
    · obtain ⟨b, o, rfl, hb, hc⟩ := HX.out (by omega)
      have hcell := hc k hlt
      rw [at_get hlt] at hcell
      have hi : (k : Int) < l.length := by omega
      have HM : Hid (l[k] ∈ l) := Lib.hid (List.getElem_mem hlt)
      have HC := Lib.hid (longA_any l[k] w)
      cases hz : longS 1000 l[k] with
      | false =>
        have HP2 : Hid (∀ j (h : j < l.length), j < k + 1 → longS 1000 l[j] = false) := Lib.hid fun j h hj => by
          by_cases e : j = k
          · subst e; exact hz
          · exact HP.out j h (by omega)
        rw [hz] at HC
        generalize l[k] = x at *
        clear hc hz HP
        go_wp2_with fail
        refine HC.out.mono ?_
        rintro e w1 ⟨rfl, rfl⟩
        go_wp2
        go_round
        case rel => exact ⟨k + 1, by omega, by go_num, HP2⟩
        case measure => simp [intOf]; omega
      | true =>
        have HF : Hid (FoundS 1000 l (k : Int)) := Lib.hid (FoundS.yes HM.out hz)
        rw [hz] at HC
        generalize l[k] = x at *
        clear hc hz HP
        go_wp2_with fail
        refine HC.out.mono ?_
        rintro e w1 ⟨rfl, rfl⟩
        go_wp2
        go_ret
        exact ⟨⟨k, rfl, HF.out, by omega⟩, rfl⟩
    · have HF : Hid (FoundS 1000 l (-1)) := Lib.hid (FoundS.no (List.any_eq_false.2 fun x hx => by
        obtain ⟨j, hj, rfl⟩ := List.mem_iff_getElem.1 hx
        rw [HP.out j hj (by omega)]
        simp))
      clear HP
      go_wp2
      go_ret
      exact ⟨⟨-1, rfl, HF.out, by decide⟩, rfl⟩
set_option maxHeartbeats 2000000 in
theorem anyA_any (l : List BA) (hl : l.length ≤ 1000000) (sv : Value) (w : World) (hI : StrsAt w.heap.size w sv l) :
    Calls Try.prog 15 #[sv, .func (.func 27) #[] #[]] w fun e w' => e = .returned (.bool (l.any (longS 1000))) ∧ w = w' := by
  have HM := Lib.hid (findA_any l hl sv w hI)
  obtain ⟨a, ca, rfl, _⟩ := hI
  go_enter Try.func15, Try.ntmps15
  go_wp2_with fail
  refine HM.out.mono ?_
  rintro e w4 ⟨⟨k, rfl, hk, hk1⟩, rfl⟩
  have HK := Lib.hid hk
  clear hk
  go_wp2
  go_ret
  exact ⟨ret_bool (Bool.eq_iff_iff.2 (by rw [decide_eq_true_iff]; exact HK.out)), rfl⟩
theorem longB_any (x : BA) (w : World) : Calls Try.prog 16 #[.string x] w fun e w' => e = .returned (.bool (longS 1100 x)) ∧ w = w' := by
  go_enter Try.func16, Try.ntmps16
  go_wp2
  go_ret
  exact ⟨ret_bool (by unfold longS; exact decide_eq_decide.2 (by omega)), rfl⟩
set_option maxHeartbeats 2000000 in
set_option maxRecDepth 100000 in
theorem findB_any (l : List BA) (hl : l.length ≤ 1000000) (sv : Value) (w : World) (hI : StrsAt w.heap.size w sv l) :
    Calls Try.prog 40 #[sv, .func (.func 16) #[] #[]] w fun e w' => (∃ k : Int, e = .returned (.int .i64 k) ∧ FoundS 1100 l k ∧ -1 ≤ k) ∧ w = w' := by
  obtain ⟨a, cap, rfl, hcx⟩ := hI
  have HX := Lib.hid hcx
  clear hcx
  go_enter Try.func40, Try.ntmps40
  go_wp2
  go_loop [8] (fun vi => ∃ k : Nat, k ≤ l.length ∧ vi = .int .i64 k ∧ Hid (∀ j (h : j < l.length), j < k → longS 1100 l[j] = false)) (fun vi => l.length - (intOf vi).toNat)
  case atStart => exact ⟨0, Nat.zero_le _, rfl, Lib.hid (fun j _ h => by omega)⟩
  case round =>
    obtain ⟨k, hk, rfl, HP⟩ := hrel
    by_cases hlt : k < l.length
    · obtain ⟨b, o, rfl, hb, hc⟩ := HX.out (by omega)
      have hcell := hc k hlt
      rw [at_get hlt] at hcell
      have hi : (k : Int) < l.length := by omega
      have HM : Hid (l[k] ∈ l) := Lib.hid (List.getElem_mem hlt)
      have HC := Lib.hid (longB_any l[k] w)
      cases hz : longS 1100 l[k] with
      | false =>
        have HP2 : Hid (∀ j (h : j < l.length), j < k + 1 → longS 1100 l[j] = false) := Lib.hid fun j h hj => by
          by_cases e : j = k
          · subst e; exact hz
          · exact HP.out j h (by omega)
        rw [hz] at HC
        generalize l[k] = x at *
        clear hc hz HP
        go_wp2_with fail
        refine HC.out.mono ?_
        rintro e w1 ⟨rfl, rfl⟩
        go_wp2
        go_round
        case rel => exact ⟨k + 1, by omega, by go_num, HP2⟩
        case measure => simp [intOf]; omega
      | true =>
        have HF : Hid (FoundS 1100 l (k : Int)) := Lib.hid (FoundS.yes HM.out hz)
        rw [hz] at HC
        generalize l[k] = x at *
        clear hc hz HP
        go_wp2_with fail
        refine HC.out.mono ?_
        rintro e w1 ⟨rfl, rfl⟩
        go_wp2
        go_ret
        exact ⟨⟨k, rfl, HF.out, by omega⟩, rfl⟩
    · have HF : Hid (FoundS 1100 l (-1)) := Lib.hid (FoundS.no (List.any_eq_false.2 fun x hx => by
        obtain ⟨j, hj, rfl⟩ := List.mem_iff_getElem.1 hx
        rw [HP.out j hj (by omega)]
        simp))
      clear HP
      go_wp2
      go_ret
      exact ⟨⟨-1, rfl, HF.out, by decide⟩, rfl⟩
set_option maxHeartbeats 2000000 in
theorem anyB_any (l : List BA) (hl : l.length ≤ 1000000) (sv : Value) (w : World) (hI : StrsAt w.heap.size w sv l) :
    Calls Try.prog 15 #[sv, .func (.func 16) #[] #[]] w fun e w' => e = .returned (.bool (l.any (longS 1100))) ∧ w = w' := by
  have HM := Lib.hid (findB_any l hl sv w hI)
  obtain ⟨a, ca, rfl, _⟩ := hI
  go_enter Try.func15, Try.ntmps15
  go_wp2_with fail
  refine HM.out.mono ?_
  rintro e w4 ⟨⟨k, rfl, hk, hk1⟩, rfl⟩
  have HK := Lib.hid hk
  clear hk
  go_wp2
  go_ret
  exact ⟨ret_bool (Bool.eq_iff_iff.2 (by rw [decide_eq_true_iff]; exact HK.out)), rfl⟩
set_option maxHeartbeats 2000000 in
set_option maxRecDepth 100000 in
theorem round_walk (l : List BA) (hsz : ∀ x ∈ l, x.size ≤ 140737488351232) (sv : Value) (w : World) (hI : StrsAt w.heap.size w sv l) : Calls Try.prog 6 #[sv] w fun e w' => e = .returned (.bool true) ∧ Below w.heap.size w w' := by
  have B0 := Lib.hid (Below.refl w.heap.size w)
  have HG := Lib.hid (great_any l hsz sv w hI)
  have HI := Lib.hid hI
  have HSZ := Lib.hid hsz
  obtain ⟨_, _, rfl, _⟩ := hI
  clear hsz
  go_enter Try.func6, Try.ntmps6
  go_wp2_with fail
  refine HG.out.mono ?_
  rintro e w1 ⟨⟨b, rfl, hg⟩, rfl⟩
  clear HG
  cases b with
  | true =>
    go_wp2_with fail
    refine (awake_any _).mono ?_
    rintro e wz ⟨rfl, hb⟩
    have BZ := Lib.hid (B0.out.trans (hb.mono B0.out.size))
    clear hb
    go_wp2
    go_ret
    exact ⟨rfl, BZ.out⟩
  | false =>
    have hl := (hg rfl).1
    have HE := Lib.hid (Encode_any l (by omega) HSZ.out _ w HI.out)
    unfold EncQ at HE
    clear hg
    cases hz : l.any (longS 1000) with
    | false =>
      have HO := Lib.hid (enc_small (by omega) (any_long_no hz))
      rw [HO.out] at HE
      dsimp only at HE
      have hqq := hz
      clear hz hqq
      go_wp2_with fail
      refine (HE.out).mono ?_
      rintro e w1 ⟨rfl, hb⟩
      have B1 := Lib.hid (B0.out.trans (hb.mono B0.out.size))
      have HD := Lib.hid (Decode_any ⟨(encL l).toArray⟩ (by show (encL l).toArray.size ≤ _; rw [List.size_toArray]; have := (encO_inv HO.out).2.1; omega) w1)
      unfold DecQ at HD
      rw [show (⟨(encL l).toArray⟩ : BA).data.toList = encL l by simp, decO_ok HO.out] at HD
      dsimp only at HD
      generalize (⟨(encL l).toArray⟩ : BA) = s at *
      clear hb
      go_wp2_with fail
      refine (HD.out).mono ?_
      rintro e w2 ⟨v, rfl, ho, hb⟩
      have B2 := Lib.hid (B1.out.trans (hb.mono B1.out.size))
      have HS := Lib.hid (same_any_S l l (by omega) _ _ w2 (HI.out.onto B2.out) ho.strs.at)
      rw [sameS_refl] at HS
      obtain ⟨A, c, rfl⟩ := own_form ho
      clear hb ho
      go_wp2_with fail
      refine (HS.out).mono ?_
      rintro e w3 ⟨rfl, hb⟩
      have B3 := Lib.hid (B2.out.trans (hb.mono B2.out.size))
      clear hb
      go_wp2_with fail
      refine (awake_any _).mono ?_
      rintro e wz ⟨rfl, hb⟩
      have BZ := Lib.hid (B3.out.trans (hb.mono B3.out.size))
      clear hb
      go_wp2
      go_ret
      exact ⟨rfl, BZ.out⟩
    | true =>
      have HO := Lib.hid (encO_bad (l := l) fun h => by
        obtain ⟨x, hx, hx2⟩ := List.any_eq_true.1 hz
        have := h.2 x hx
        unfold longS at hx2
        rw [decide_eq_true_iff] at hx2
        omega)
      rw [HO.out] at HE
      dsimp only at HE
      have HZ := Lib.hid hz
      clear hz
      go_wp2_with fail
      refine (HE.out).mono ?_
      rintro e w1 ⟨rfl, hb⟩
      have B1 := Lib.hid (B0.out.trans (hb.mono B0.out.size))
      have HC := Lib.hid (anyA_any l (by omega) _ w1 (HI.out.onto B1.out))
      rw [HZ.out] at HC
      clear hb
      go_wp2_with fail
      refine HC.out.mono ?_
      rintro e w2 ⟨rfl, rfl⟩
      go_wp2_with fail
      refine (awake_any _).mono ?_
      rintro e wz ⟨rfl, hb⟩
      have BZ := Lib.hid (B1.out.trans (hb.mono B1.out.size))
      clear hb
      go_wp2
      go_ret
      exact ⟨rfl, BZ.out⟩
end Go.Proofs.Ytpinmmmbmhfmiaa.Dt
