/- Layer 10: the program's Encode. -/
import Derived.Test.YtpinmmmbmhfmiaaDtI
import Derived.Test.YtpinmmmbmhfmiaaDuC
import Derived.Test.YtpinmmmbmhfmiaaDuG
set_option linter.unusedVariables false
set_option linter.unusedSimpArgs false
namespace Go.Proofs.Ytpinmmmbmhfmiaa.Dt
open Go.RowKit Go.Sort Dc
theorem ret_bool {a b : Bool} (h : a = b) : Ending.returned (.bool a) = .returned (.bool b) := by rw [h]
/-- Whether a string has more than m bytes. -/
def longS (m : Nat) (x : BA) : Bool := decide (m < x.size)
def FoundS (m : Nat) (l : List BA) (k : Int) : Prop := 0 ≤ k ↔ l.any (longS m) = true
theorem FoundS.yes {m : Nat} {l : List BA} {k : Nat} {x : BA} (h : x ∈ l) (h2 : longS m x = true) : FoundS m l (k : Int) := ⟨fun _ => List.any_eq_true.2 ⟨_, h, h2⟩, fun _ => by omega⟩
theorem FoundS.no {m : Nat} {l : List BA} (h : l.any (longS m) = false) : FoundS m l (-1) := ⟨fun h => absurd h (by decide), fun h2 => by rw [h] at h2; cases h2⟩
theorem any_long_no {m : Nat} {l : List BA} (h : l.any (longS m) = false) : ∀ x ∈ l, x.size ≤ m := fun x hx => by
  have h2 := List.any_eq_false.1 h x hx
  unfold longS at h2
  simpa using h2
theorem longC_any (x : BA) (w : World) : Calls Try.prog 50 #[.string x] w fun e w' => e = .returned (.bool (longS 1000 x)) ∧ w = w' := by
  go_enter Try.func50, Try.ntmps50
  go_wp2
  go_ret
  exact ⟨ret_bool (by unfold longS; exact decide_eq_decide.2 (by omega)), rfl⟩
set_option maxHeartbeats 2000000 in
set_option maxRecDepth 100000 in
theorem findC_any (l : List BA) (hl : l.length ≤ 1000000) (sv : Value) (w : World) (hI : StrsAt w.heap.size w sv l) :
    Calls Try.prog 40 #[sv, .func (.func 50) #[] #[]] w fun e w' => (∃ k : Int, e = .returned (.int .i64 k) ∧ FoundS 1000 l k ∧ -1 ≤ k) ∧ w = w' := by
  obtain ⟨a, cap, rfl, hcx⟩ := hI
  have HX := Lib.hid hcx
  clear hcx
  go_enter Try.func40, Try.ntmps40
  go_wp2
  go_loop [8] (fun vi => ∃ k : Nat, k ≤ l.length ∧ vi = .int .i64 k ∧ Hid (∀ j (h : j < l.length), j < k → longS 1000 l[j] = false)) (fun vi => l.length - (intOf vi).toNat)
  case atStart => exact ⟨0, Nat.zero_le _, rfl, Lib.hid (fun j _ h => by omega)⟩
  case round =>
    obtain ⟨k, hk, rfl, HP⟩ := hrel
    by_cases hlt : k < l.length
    · obtain ⟨b, o, rfl, hb, hc⟩ := HX.out (by omega)
      have hcell := hc k hlt
      rw [at_get hlt] at hcell
      have hi : (k : Int) < l.length := by omega
      have HM : Hid (l[k] ∈ l) := Lib.hid (List.getElem_mem hlt)
      have HC := Lib.hid (longC_any l[k] w)
      cases hz : longS 1000 l[k] with
      | false =>
        have HP2 : Hid (∀ j (h : j < l.length), j < k + 1 → longS 1000 l[j] = false) := Lib.hid fun j h hj => by
          by_cases e : j = k
          · subst e; exact hz
          · exact HP.out j h (by omega)
        rw [hz] at HC
        generalize l[k] = x at *
        clear hc hz HP
        go_wp2_with fail
        refine HC.out.mono ?_
        rintro e w1 ⟨rfl, rfl⟩
        go_wp2
        go_round
        case rel => exact ⟨k + 1, by omega, by go_num, HP2⟩
        case measure => simp [intOf]; omega
      | true =>
        have HF : Hid (FoundS 1000 l (k : Int)) := Lib.hid (FoundS.yes HM.out hz)
        rw [hz] at HC
        generalize l[k] = x at *
        clear hc hz HP
        go_wp2_with fail
        refine HC.out.mono ?_
        rintro e w1 ⟨rfl, rfl⟩
        go_wp2
        go_ret
        exact ⟨⟨k, rfl, HF.out, by omega⟩, rfl⟩
    · have HF : Hid (FoundS 1000 l (-1)) := Lib.hid (FoundS.no (List.any_eq_false.2 fun x hx => by
        obtain ⟨j, hj, rfl⟩ := List.mem_iff_getElem.1 hx
        rw [HP.out j hj (by omega)]
        simp))
      clear HP
      go_wp2
      go_ret
      exact ⟨⟨-1, rfl, HF.out, by decide⟩, rfl⟩
set_option maxHeartbeats 2000000 in
theorem anyC_any (l : List BA) (hl : l.length ≤ 1000000) (sv : Value) (w : World) (hI : StrsAt w.heap.size w sv l) :
    Calls Try.prog 15 #[sv, .func (.func 50) #[] #[]] w fun e w' => e = .returned (.bool (l.any (longS 1000))) ∧ w = w' := by
  have HM := Lib.hid (findC_any l hl sv w hI)
  obtain ⟨a, ca, rfl, _⟩ := hI
  go_enter Try.func15, Try.ntmps15
  go_wp2_with fail
  refine HM.out.mono ?_
  rintro e w4 ⟨⟨k, rfl, hk, hk1⟩, rfl⟩
  have HK := Lib.hid hk
  clear hk
  go_wp2
  go_ret
  exact ⟨ret_bool (Bool.eq_iff_iff.2 (by rw [decide_eq_true_iff]; exact HK.out)), rfl⟩
theorem isCol_iff {l : List BA} : (decide (l.length ≤ 2000) && !(l.any (longS 1000))) = true ↔ colOk l := by
  rw [Bool.and_eq_true, decide_eq_true_iff, Bool.not_eq_true']
  constructor
  · rintro ⟨h1, h2⟩
    exact ⟨h1, any_long_no h2⟩
  · rintro ⟨h1, h2⟩
    refine ⟨h1, List.any_eq_false.2 fun x hx => ?_⟩
    have := h2 x hx
    unfold longS
    simpa using this
theorem isColumn_any (l : List BA) (hl : l.length ≤ 1000000) (sv : Value) (w : World) (hI : StrsAt w.heap.size w sv l) :
    Calls Try.prog 34 #[sv] w fun e w' => e = .returned (.bool (decide (l.length ≤ 2000) && !(l.any (longS 1000)))) ∧ w = w' := by
  have HC := Lib.hid (anyC_any l hl sv w hI)
  obtain ⟨a, cap, rfl, _⟩ := hI
  by_cases h : l.length ≤ 2000
  · have hi : (l.length : Int) ≤ 2000 := by omega
    have hd : decide (l.length ≤ 2000) = true := decide_eq_true h
    rw [hd, Bool.true_and]
    generalize l.any (longS 1000) = q at *
    go_enter Try.func34, Try.ntmps34
    go_wp2_with fail
    refine HC.out.mono ?_
    rintro e w1 ⟨rfl, rfl⟩
    go_wp2
    go_ret
    exact ⟨rfl, rfl⟩
  · have hi : ¬ (l.length : Int) ≤ 2000 := by omega
    have hd : decide (l.length ≤ 2000) = false := decide_eq_false h
    rw [hd, Bool.false_and]
    clear HC
    go_enter Try.func34, Try.ntmps34
    go_wp2_with fail
    go_ret
    exact ⟨rfl, rfl⟩
set_option maxHeartbeats 1000000 in
theorem encoding_any (l : List BA) (hok : colOk l) (sv : Value) (w : World) (hI : StrsAt w.heap.size w sv l) :
    Calls Try.prog 35 #[sv] w fun e w' => e = .returned (.string ⟨(encL l).toArray⟩) ∧ Below w.heap.size w w' := by
  have hl := hok.1
  have HP := Lib.hid (pdict_any l (by omega) sv w hI)
  have HI := Lib.hid hI
  have hdl := dict_len l
  have HDS : Hid (∀ x ∈ dict l, x.size ≤ 1000) := Lib.hid fun x hx => hok.2 x ((dict_mem l x).1 hx)
  have HDM : Hid (∀ x, x ∈ l → x ∈ dict l) := Lib.hid fun x hx => (dict_mem l x).2 hx
  have HDN : Hid (dict l).Nodup := Lib.hid (asc_nodup (dict_asc l))
  have HEL : Hid (encL l = uv l.length ++ uv (dict l).length ++ dicB [] (dict l) ++ runB (dict l) (rle l)) := rfl
  have HLE : Hid (encL l = uv l.length ++ uv (dict l).length ++ dicB [] (dict l) ++ runB (dict l) (rle l)) := rfl
  obtain ⟨d, hd⟩ : ∃ d, dict l = d := ⟨_, rfl⟩
  rw [hd] at HP hdl HDS HDM HEL HDN
  obtain ⟨E, hE⟩ : ∃ E, encL l = E := ⟨_, rfl⟩
  rw [hE] at HEL HLE ⊢
  obtain ⟨a, cap, rfl, _⟩ := hI
  clear hd hE hok
  go_enter Try.func35, Try.ntmps35
  go_wp2_with fail
  refine HP.out.mono ?_
  rintro e w1 ⟨v, rfl, ho, hb⟩
  have HS1 := Lib.hid (OwnS.strs ho).at
  have HI1 := Lib.hid (HI.out.onto hb)
  have B1 := Lib.hid hb
  have N1 := Lib.hid (pnum_any w1.heap.size l.length (.slice none 0 0) [] w1 (Nat.le_refl _) (OwnBy.nil_ _ _) (by omega) (by simp))
  obtain ⟨A1, c1, rfl⟩ := own_form ho
  clear ho hb HP HI
  go_wp2_with fail
  refine N1.out.mono ?_
  rintro e w2 ⟨v2, rfl, ho2, hb2, hg2⟩
  rw [List.nil_append] at ho2
  have hb2' := hb2
  have hs2 := hb2.size
  have B2 := Lib.hid hb2
  have q2 : (uv l.length).length ≤ 9 := uv_len9 (m := l.length) (by omega)
  have N2 := Lib.hid (pnum_any w1.heap.size d.length v2 _ w2 hs2 ho2 (by omega) (by omega))
  obtain ⟨u2, hu2⟩ : ∃ u, uv l.length = u := ⟨_, rfl⟩
  rw [hu2] at ho2 N2 q2 HEL
  obtain ⟨A2, c2, rfl⟩ := own_form ho2
  clear ho2 hb2 hb2' hg2 hu2 N1
  go_wp2_with fail
  refine N2.out.mono ?_
  rintro e w3 ⟨v3, rfl, ho3, hb3, hg3⟩
  have hs3 := hb3.size
  have B3 := Lib.hid (B2.out.trans hb3)
  have q3 : (u2 ++ uv d.length).length ≤ 18 := by
    have := uv_len9 (m := d.length) (by omega)
    rw [List.length_append]
    unfold uv
    omega
  obtain ⟨u3, hu3⟩ : ∃ u, u2 ++ uv d.length = u := ⟨_, rfl⟩
  rw [hu3] at ho3 q3 HEL
  have N3 := Lib.hid (appDict_any w1.heap.size d (by omega) HDS.out v3 _ u3 (by omega) w3 B3.out.size ho3 (HS1.out.below B3.out))
  obtain ⟨A3, c3, rfl⟩ := own_form ho3
  clear ho3 hb3 hg3 hu3 N2 B2
  go_wp2_with fail
  refine N3.out.mono ?_
  rintro e w4 ⟨v4, rfl, ho4, hb4⟩
  have B4 := Lib.hid (B3.out.trans hb4)
  have q4 : (u3 ++ dicB [] d).length ≤ 10000000 := by
    have := pdicB_len d [] HDS.out
    rw [List.length_append]
    omega
  obtain ⟨u4, hu4⟩ : ∃ u, u3 ++ dicB [] d = u := ⟨_, rfl⟩
  rw [hu4] at ho4 q4 HEL
  have hs4 := B4.out.size
  have O4 := Lib.hid ho4
  have N4 := Lib.hid (indices_any d (by omega) HDN.out HDS.out (.slice A1 d.length c1) w4 ((HS1.out.below B4.out).mono hs4))
  obtain ⟨A4, c4, rfl⟩ := own_form ho4
  clear ho4 hb4 hu4 N3 B3
  go_wp2_with fail
  refine N4.out.mono ?_
  rintro e w5 ⟨rfl, hm5, hb5⟩
  have B5 := Lib.hid (B4.out.trans (hb5.mono hs4))
  have N5 := Lib.hid (appRuns_any w1.heap.size d l (by omega) HDS.out (by omega) HDM.out _ (.slice a l.length cap) w4.heap.size u4 q4 w5 B5.out.size (O4.out.step hb5) (HI1.out.below B5.out) hm5)
  clear hm5 hb5 N4 O4
  go_wp2_with fail
  refine N5.out.mono ?_
  rintro e w6 ⟨v6, rfl, ho6, hb6⟩
  rw [← HEL.out] at ho6
  have B6 := Lib.hid (B1.out.trans ((B5.out.trans hb6).mono B1.out.size))
  have hel : 1 ≤ E.length := by
    rw [HLE.out]
    have hz := Lib.uvarint_pos l.length
    simp only [List.length_append]
    unfold uv
    omega
  obtain ⟨g, cg, rfl, hconv⟩ := conv_back (.inl ho6) hel
  clear ho6 hb6 N5
  go_wp2
  go_ret
  exact ⟨rfl, B6.out⟩
set_option maxHeartbeats 1000000 in
theorem pEncode_any (l : List BA) (hl : l.length ≤ 100000) (sv : Value) (w : World) (hI : StrsAt w.heap.size w sv l) : Calls Try.prog 13 #[sv] w (EncQ l w) := by
  have HC := Lib.hid (isColumn_any l (by omega) sv w hI)
  by_cases hok : colOk l
  · rw [isCol_iff.2 hok] at HC
    have HE := Lib.hid (encoding_any l hok sv w hI)
    have HK := Lib.hid hok
    obtain ⟨a, cap, rfl, _⟩ := hI
    by_cases hlong : (encL l).length ≤ 1048576
    · have HO := Lib.hid (encO_ok hok hlong)
      unfold EncQ
      rw [HO.out]
      dsimp only
      have hz : (⟨(encL l).toArray⟩ : BA).size = (encL l).length := by show (encL l).toArray.size = _; rw [List.size_toArray]
      generalize (⟨(encL l).toArray⟩ : BA) = y at *
      have hli : ¬ (1048576 : Int) < y.size := by omega
      have hli2 : ¬ 1048576 < y.size := by omega
      clear HO hok hz hlong
      go_enter Try.func13, Try.ntmps13
      go_wp2_with fail
      refine HC.out.mono ?_
      rintro e w1 ⟨rfl, rfl⟩
      go_wp2_with fail
      refine HE.out.mono ?_
      rintro e w2 ⟨rfl, hb⟩
      have B2 := Lib.hid hb
      clear hb HC HE
      go_wp2
      go_ret2
      exact ⟨rfl, B2.out⟩
    · have HO := Lib.hid (encO_long (l := l) hlong)
      have hz : (⟨(encL l).toArray⟩ : BA).size = (encL l).length := by show (encL l).toArray.size = _; rw [List.size_toArray]
      generalize (⟨(encL l).toArray⟩ : BA) = y at *
      have hli : (1048576 : Int) < y.size := by omega
      have hli2 : 1048576 < y.size := by omega
      clear hok hz hlong
      go_enter Try.func13, Try.ntmps13
      go_wp2_with fail
      refine HC.out.mono ?_
      rintro e w1 ⟨rfl, rfl⟩
      go_wp2_with fail
      refine HE.out.mono ?_
      rintro e w2 ⟨rfl, hb⟩
      have B2 := Lib.hid hb
      clear hb HC HE
      go_wp2
      go_ret2
      exact EncQ.bad HO.out B2.out
  · have hf : (decide (l.length ≤ 2000) && !(l.any (longS 1000))) = false := by
      cases e : (decide (l.length ≤ 2000) && !(l.any (longS 1000))) with
      | false => rfl
      | true => exact absurd (isCol_iff.1 e) hok
    rw [hf] at HC
    have HO := Lib.hid (encO_bad (l := l) hok)
    obtain ⟨a, cap, rfl, _⟩ := hI
    clear hok hf
    go_enter Try.func13, Try.ntmps13
    go_wp2_with fail
    refine HC.out.mono ?_
    rintro e w1 ⟨rfl, rfl⟩
    go_wp2
    go_ret2
    exact EncQ.bad HO.out (Below.refl _ _)
end Go.Proofs.Ytpinmmmbmhfmiaa.Dt
