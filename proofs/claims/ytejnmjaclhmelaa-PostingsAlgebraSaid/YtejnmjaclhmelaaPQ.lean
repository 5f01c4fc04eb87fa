/- Layer 8: the walk of the law PostingsAlgebra. -/
import Derived.Test.YtejnmjaclhmelaaPO
set_option linter.unusedVariables false
set_option linter.unusedSimpArgs false
namespace Go.Proofs.Ytejnmjaclhmelaa.Po
open Go.RowKit
theorem IntsL.three {w : World} {sx sy sz : Value} {xs ys zs : List Int} (hX : Ints w.heap.size w sx xs) (hY : Ints w.heap.size w sy ys) (hZ : Ints w.heap.size w sz zs) : IntsL (w.alloc (.cells #[sx, sy, sz] 22)).heap.size (w.alloc (.cells #[sx, sy, sz] 22)) (.slice (some ⟨w.heap.size, 0, none⟩) 3 3) [xs, ys, zs] := by
  have B0 : Below w.heap.size w (w.alloc (.cells #[sx, sy, sz] 22)) := (Below.refl _ _).alloc (Nat.le_refl _) _
  refine ⟨_, 3, rfl, fun j => if j = 0 then sx else if j = 1 then sy else sz, fun _ => ⟨_, 0, rfl, by simp, fun j hj => ?_⟩, fun j hj => ?_⟩
  · match j, hj with
    | 0, _ => go_simp
    | 1, _ => go_simp
    | 2, _ => go_simp
  · match j, hj with
    | 0, _ => exact (hX.below B0).mono (by simp)
    | 1, _ => exact (hY.below B0).mono (by simp)
    | 2, _ => exact (hZ.below B0).mono (by simp)
theorem and_len (a b : List Int) : (andL a b).length ≤ a.length := List.length_filter_le ..
theorem wi_le (a b : List Int) : (wiL a b).length ≤ a.length := List.length_filter_le ..
theorem or_le (a b : List Int) : (orL a b).length ≤ a.length + b.length := by
  have := mrg_len [a, b] []
  unfold orL mrgL
  simp [tot] at this ⊢
  omega
theorem kAnd (l m r : List Int) (hl : Val l) (hm : Val m) (h1 : l.length ≤ 400000) (h2 : m.length ≤ 400000) (h : andL l m = r) (v : World) (sl sm : Value) (hL : Ints v.heap.size v sl l) (hM : Ints v.heap.size v sm m) : Calls Try.prog 17 #[sl, sm] v (IntsOut v r) := by
  have q := gAnd_any l m (by omega) (by omega) sl sm v hL hM
  rw [fltO_ok (chk_zero.2 hl) (chk_zero.2 hm), ← and_flt, h] at q
  exact q
theorem kWi (l m r : List Int) (hl : Val l) (hm : Val m) (h1 : l.length ≤ 400000) (h2 : m.length ≤ 400000) (h : wiL l m = r) (v : World) (sl sm : Value) (hL : Ints v.heap.size v sl l) (hM : Ints v.heap.size v sm m) : Calls Try.prog 21 #[sl, sm] v (IntsOut v r) := by
  have q := gWithout_any l m (by omega) (by omega) sl sm v hL hM
  rw [fltO_ok (chk_zero.2 hl) (chk_zero.2 hm), ← wi_flt, h] at q
  exact q
theorem kOr (l m r : List Int) (hl : Val l) (hm : Val m) (h1 : l.length ≤ 400000) (h2 : m.length ≤ 400000) (h : orL l m = r) (v : World) (sl sm : Value) (hL : Ints v.heap.size v sl l) (hM : Ints v.heap.size v sm m) : Calls Try.prog 19 #[sl, sm] v (IntsOut v r) := by
  have q := gOr_any l m h1 h2 sl sm v hL hM
  have e : orO l m = orL l m := mrgO_ok fun k hk => by
    simp only [List.mem_cons, List.not_mem_nil, or_false] at hk
    rcases hk with rfl | rfl
    · exact chk_zero.2 hl
    · exact chk_zero.2 hm
  rw [e, h] at q
  exact q
def Op2 (f : FuncId) (l m r : List Int) : Prop := ∀ (v : World) (sl sm : Value), Ints v.heap.size v sl l → Ints v.heap.size v sm m → Calls Try.prog f #[sl, sm] v (IntsOut v r)
def Sm2 (l : List Int) : Prop := ∀ (v : World) (sl sm : Value), Ints v.heap.size v sl l → Ints v.heap.size v sm l → Calls Try.prog 16 #[sl, sm] v fun e w' => e = .returned (.bool true) ∧ Below v.heap.size v w'
theorem sm2 {l : List Int} (h : l.length ≤ 400000) : Sm2 l := fun v sl sm h1 h2 => same_yes l l rfl (by omega) sl sm v h1 h2
/-- All that the law computes. -/
structure Alg (a b c ab bc ac abc d1 oab obc oac oabc d2 wab w2 : List Int) : Prop where
  a1 : Op2 17 a b ab
  a2 : Op2 17 b a ab
  a3 : Op2 17 b c bc
  a4 : Op2 17 a bc abc
  a5 : Op2 17 ab c abc
  a6 : Op2 17 a a a
  a7 : Op2 17 a obc d1
  a8 : Op2 17 a c ac
  a9 : Op2 17 oab oac d2
  o1 : Op2 19 a b oab
  o2 : Op2 19 b a oab
  o3 : Op2 19 b c obc
  o4 : Op2 19 a obc oabc
  o5 : Op2 19 oab c oabc
  o6 : Op2 19 a a a
  o7 : Op2 19 ab ac d1
  o8 : Op2 19 a bc d2
  o9 : Op2 19 a c oac
  x1 : Op2 21 a b wab
  x2 : Op2 21 wab c w2
  x3 : Op2 21 a obc w2
  sab : Sm2 ab
  soab : Sm2 oab
  sabc : Sm2 abc
  soabc : Sm2 oabc
  sa : Sm2 a
  sd1 : Sm2 d1
  sd2 : Sm2 d2
  sw2 : Sm2 w2
theorem alg {a b c : List Int} (ha : Val a) (hb : Val b) (hc : Val c) (la : a.length ≤ 40) (lb : b.length ≤ 40) (lc : c.length ≤ 40) : ∃ ab bc ac abc d1 oab obc oac oabc d2 wab w2, Alg a b c ab bc ac abc d1 oab obc oac oabc d2 wab w2 := by
  have h1 := and_len a b
  have h2 := and_len b c
  have h3 := and_len a c
  have h4 := or_le a b
  have h5 := or_le b c
  have h6 := or_le a c
  have h7 := wi_le a b
  have h8 := and_len a (andL b c)
  have h9 := and_len a (orL b c)
  have h10 := or_le a (orL b c)
  have h11 := or_le a (andL b c)
  have h12 := wi_le a (orL b c)
  refine ⟨andL a b, andL b c, andL a c, andL a (andL b c), andL a (orL b c), orL a b, orL b c, orL a c, orL a (orL b c), orL a (andL b c), wiL a b, wiL a (orL b c), ?_⟩
  exact {
    a1 := kAnd _ _ _ ha hb (by omega) (by omega) rfl
    a2 := kAnd _ _ _ hb ha (by omega) (by omega) (and_comm_ hb ha)
    a3 := kAnd _ _ _ hb hc (by omega) (by omega) rfl
    a4 := kAnd _ _ _ ha (hb.and_ c) (by omega) (by omega) rfl
    a5 := kAnd _ _ _ (ha.and_ b) hc (by omega) (by omega) (and_assoc_ ha hb hc).symm
    a6 := kAnd _ _ _ ha ha (by omega) (by omega) (and_idem ha)
    a7 := kAnd _ _ _ ha (hb.or_ hc) (by omega) (by omega) rfl
    a8 := kAnd _ _ _ ha hc (by omega) (by omega) rfl
    a9 := kAnd _ _ _ (ha.or_ hb) (ha.or_ hc) (by omega) (by omega) (or_dist ha hb hc).symm
    o1 := kOr _ _ _ ha hb (by omega) (by omega) rfl
    o2 := kOr _ _ _ hb ha (by omega) (by omega) (or_comm_ hb ha)
    o3 := kOr _ _ _ hb hc (by omega) (by omega) rfl
    o4 := kOr _ _ _ ha (hb.or_ hc) (by omega) (by omega) rfl
    o5 := kOr _ _ _ (ha.or_ hb) hc (by omega) (by omega) (or_assoc_ ha hb hc).symm
    o6 := kOr _ _ _ ha ha (by omega) (by omega) (or_idem ha)
    o7 := kOr _ _ _ (ha.and_ b) (ha.and_ c) (by omega) (by omega) (and_dist ha hb hc).symm
    o8 := kOr _ _ _ ha (hb.and_ c) (by omega) (by omega) rfl
    o9 := kOr _ _ _ ha hc (by omega) (by omega) rfl
    x1 := kWi _ _ _ ha hb (by omega) (by omega) rfl
    x2 := kWi _ _ _ (ha.wi b) hc (by omega) (by omega) (wi_wi ha hb hc)
    x3 := kWi _ _ _ ha (hb.or_ hc) (by omega) (by omega) rfl
    sab := sm2 (by omega)
    soab := sm2 (by omega)
    sabc := sm2 (by omega)
    soabc := sm2 (by omega)
    sa := sm2 (by omega)
    sd1 := sm2 (by omega)
    sd2 := sm2 (by omega)
    sw2 := sm2 (by omega) }
set_option maxHeartbeats 16000000 in
set_option maxRecDepth 100000 in
theorem algebra_walk (a : List Int) (sa : Value) (b : List Int) (sb : Value) (c : List Int) (sc : Value) (w : World) (hla : a.length ≤ maxLen) (hlb : b.length ≤ maxLen) (hlc : c.length ≤ maxLen) (hX : Ints w.heap.size w sa a) (hY : Ints w.heap.size w sb b) (hZ : Ints w.heap.size w sc c) :
    Calls Try.prog 8 #[sa, sb, sc] w fun e w' => e = .returned (.bool true) ∧ Below w.heap.size w w' := by
  have CG := Lib.hid (great_any [a, b, c] (by unfold maxLen; simp) _ _ (IntsL.three hX hY hZ))
  have B0 : Hid (Below w.heap.size w (w.alloc (.cells #[sa, sb, sc] 22))) := Lib.hid ((Below.refl _ _).alloc (Nat.le_refl _) _)
  have CA := Lib.hid awake_any
  have FA : Hid (∀ v, Below w.heap.size w v → Ints v.heap.size v sa a) := Lib.hid fun v hb => (hX.below hb).mono hb.size
  have FB : Hid (∀ v, Below w.heap.size w v → Ints v.heap.size v sb b) := Lib.hid fun v hb => (hY.below hb).mono hb.size
  have FC : Hid (∀ v, Below w.heap.size w v → Ints v.heap.size v sc c) := Lib.hid fun v hb => (hZ.below hb).mono hb.size
  cases hg : greatB [a, b, c] with
  | true =>
    rw [hg] at CG
    clear hg FA FB FC
    obtain ⟨_, _, rfl, _⟩ := hX
    obtain ⟨_, _, rfl, _⟩ := hY
    obtain ⟨_, _, rfl, _⟩ := hZ
    go_enter Try.func8, Try.ntmps8
    go_wp2_with (first
      | (go_at_call 12; (with_reducible refine CG.out.mono ?_); rintro e w1 ⟨rfl, rfl⟩)
      | (go_at_call 13; (with_reducible refine (CA.out _).mono ?_); rintro e w2 ⟨rfl, hb2⟩; have B2 := Lib.hid (B0.out.trans (hb2.mono B0.out.size)); clear hb2))
    go_ret
    exact ⟨rfl, B2.out⟩
  | false =>
    obtain ⟨_, hle⟩ := great_no hg
    have la : a.length ≤ 40 := hle a (by simp)
    have lb : b.length ≤ 40 := hle b (by simp)
    have lc : c.length ≤ 40 := hle c (by simp)
    rw [hg] at CG
    have C1 : Hid (∀ v, Below w.heap.size w v → Calls Try.prog 14 #[sa] v fun e w' => e = .returned (.int .i64 (chk a)) ∧ Below v.heap.size v w') := Lib.hid fun v hb => gCheck_any a (by omega) sa v (FA.out v hb)
    have C2 : Hid (∀ v, Below w.heap.size w v → Calls Try.prog 14 #[sb] v fun e w' => e = .returned (.int .i64 (chk b)) ∧ Below v.heap.size v w') := Lib.hid fun v hb => gCheck_any b (by omega) sb v (FB.out v hb)
    have C3 : Hid (∀ v, Below w.heap.size w v → Calls Try.prog 14 #[sc] v fun e w' => e = .returned (.int .i64 (chk c)) ∧ Below v.heap.size v w') := Lib.hid fun v hb => gCheck_any c (by omega) sc v (FC.out v hb)
    clear hg hle
    by_cases h1 : chk a = 0
    · by_cases h2 : chk b = 0
      · by_cases h3 : chk c = 0
        · obtain ⟨ab, bc, ac, abc, d1, oab, obc, oac, oabc, d2, wab, w2, al⟩ := alg (chk_zero.1 h1) (chk_zero.1 h2) (chk_zero.1 h3) la lb lc
          have AL := Lib.hid al
          rw [h1] at C1
          rw [h2] at C2
          rw [h3] at C3
          clear al h1 h2 h3 la lb lc
          obtain ⟨_, _, rfl, _⟩ := hX
          obtain ⟨_, _, rfl, _⟩ := hY
          obtain ⟨_, _, rfl, _⟩ := hZ
          go_enter Try.func8, Try.ntmps8
          go_wp2_with fail
          refine CG.out.mono ?_
          rintro e w0 ⟨rfl, rfl⟩
          go_wp2_with fail
          refine (C1.out _ B0.out).mono ?_
          rintro e w1 ⟨rfl, hb1⟩
          have B1x := Lib.hid (B0.out.trans (hb1.mono B0.out.size))
          clear hb1
          go_wp2_with fail
          refine (C2.out _ B1x.out).mono ?_
          rintro e w2 ⟨rfl, hb2⟩
          have B2x := Lib.hid (B1x.out.trans (hb2.mono B1x.out.size))
          clear hb2 B1x
          go_wp2_with fail
          refine (C3.out _ B2x.out).mono ?_
          rintro e w3 ⟨rfl, hb3⟩
          have B3x := Lib.hid (B2x.out.trans (hb3.mono B2x.out.size))
          clear hb3 B2x
          go_wp2_with fail
          refine (AL.out.a1 _ _ _ (FA.out _ B3x.out) (FB.out _ B3x.out)).mono ?_
          rintro e w4 ⟨v4, rfl, h4, hb4⟩
          have I4 := Lib.hid h4
          have B4x := Lib.hid (B3x.out.trans (hb4.mono B3x.out.size))
          clear h4 hb4 B3x
          go_wp2_with fail
          refine (AL.out.a2 _ _ _ (FB.out _ B4x.out) (FA.out _ B4x.out)).mono ?_
          rintro e w5 ⟨v5, rfl, h5, hb5⟩
          have I4' := Lib.hid ((I4.out.below hb5).mono hb5.size)
          have I5 := Lib.hid h5
          have B5x := Lib.hid (B4x.out.trans (hb5.mono B4x.out.size))
          clear I4 h5 hb5 B4x
          go_wp2_with fail
          refine (AL.out.sab _ _ _ I4'.out I5.out).mono ?_
          rintro e w6 ⟨rfl, hb6⟩
          have B6x := Lib.hid (B5x.out.trans (hb6.mono B5x.out.size))
          clear I4' I5 hb6 B5x
          go_wp2_with fail
          refine (AL.out.o1 _ _ _ (FA.out _ B6x.out) (FB.out _ B6x.out)).mono ?_
          rintro e w7 ⟨v7, rfl, h7, hb7⟩
          have I7 := Lib.hid h7
          have B7x := Lib.hid (B6x.out.trans (hb7.mono B6x.out.size))
          clear h7 hb7 B6x
          go_wp2_with fail
          refine (AL.out.o2 _ _ _ (FB.out _ B7x.out) (FA.out _ B7x.out)).mono ?_
          rintro e w8 ⟨v8, rfl, h8, hb8⟩
          have I7' := Lib.hid ((I7.out.below hb8).mono hb8.size)
          have I8 := Lib.hid h8
          have B8x := Lib.hid (B7x.out.trans (hb8.mono B7x.out.size))
          clear I7 h8 hb8 B7x
          go_wp2_with fail
          refine (AL.out.soab _ _ _ I7'.out I8.out).mono ?_
          rintro e w9 ⟨rfl, hb9⟩
          have B9x := Lib.hid (B8x.out.trans (hb9.mono B8x.out.size))
          clear I7' I8 hb9 B8x
          go_wp2_with fail
          refine (AL.out.a3 _ _ _ (FB.out _ B9x.out) (FC.out _ B9x.out)).mono ?_
          rintro e w10 ⟨v10, rfl, h10, hb10⟩
          have I10 := Lib.hid h10
          have B10x := Lib.hid (B9x.out.trans (hb10.mono B9x.out.size))
          clear h10 hb10 B9x
          go_wp2_with fail
          refine (AL.out.a4 _ _ _ (FA.out _ B10x.out) I10.out).mono ?_
          rintro e w11 ⟨v11, rfl, h11, hb11⟩
          have I11 := Lib.hid h11
          have B11x := Lib.hid (B10x.out.trans (hb11.mono B10x.out.size))
          clear I10 h11 hb11 B10x
          go_wp2_with fail
          refine (AL.out.a1 _ _ _ (FA.out _ B11x.out) (FB.out _ B11x.out)).mono ?_
          rintro e w12 ⟨v12, rfl, h12, hb12⟩
          have I11' := Lib.hid ((I11.out.below hb12).mono hb12.size)
          have I12 := Lib.hid h12
          have B12x := Lib.hid (B11x.out.trans (hb12.mono B11x.out.size))
          clear I11 h12 hb12 B11x
          go_wp2_with fail
          refine (AL.out.a5 _ _ _ I12.out (FC.out _ B12x.out)).mono ?_
          rintro e w13 ⟨v13, rfl, h13, hb13⟩
          have I11'' := Lib.hid ((I11'.out.below hb13).mono hb13.size)
          have I13 := Lib.hid h13
          have B13x := Lib.hid (B12x.out.trans (hb13.mono B12x.out.size))
          clear I12 I11' h13 hb13 B12x
          go_wp2_with fail
          refine (AL.out.sabc _ _ _ I11''.out I13.out).mono ?_
          rintro e w14 ⟨rfl, hb14⟩
          have B14x := Lib.hid (B13x.out.trans (hb14.mono B13x.out.size))
          clear I11'' I13 hb14 B13x
          go_wp2_with fail
          refine (AL.out.o3 _ _ _ (FB.out _ B14x.out) (FC.out _ B14x.out)).mono ?_
          rintro e w15 ⟨v15, rfl, h15, hb15⟩
          have I15 := Lib.hid h15
          have B15x := Lib.hid (B14x.out.trans (hb15.mono B14x.out.size))
          clear h15 hb15 B14x
          go_wp2_with fail
          refine (AL.out.o4 _ _ _ (FA.out _ B15x.out) I15.out).mono ?_
          rintro e w16 ⟨v16, rfl, h16, hb16⟩
          have I16 := Lib.hid h16
          have B16x := Lib.hid (B15x.out.trans (hb16.mono B15x.out.size))
          clear I15 h16 hb16 B15x
          go_wp2_with fail
          refine (AL.out.o1 _ _ _ (FA.out _ B16x.out) (FB.out _ B16x.out)).mono ?_
          rintro e w17 ⟨v17, rfl, h17, hb17⟩
          have I16' := Lib.hid ((I16.out.below hb17).mono hb17.size)
          have I17 := Lib.hid h17
          have B17x := Lib.hid (B16x.out.trans (hb17.mono B16x.out.size))
          clear I16 h17 hb17 B16x
          go_wp2_with fail
          refine (AL.out.o5 _ _ _ I17.out (FC.out _ B17x.out)).mono ?_
          rintro e w18 ⟨v18, rfl, h18, hb18⟩
          have I16'' := Lib.hid ((I16'.out.below hb18).mono hb18.size)
          have I18 := Lib.hid h18
          have B18x := Lib.hid (B17x.out.trans (hb18.mono B17x.out.size))
          clear I17 I16' h18 hb18 B17x
          go_wp2_with fail
          refine (AL.out.soabc _ _ _ I16''.out I18.out).mono ?_
          rintro e w19 ⟨rfl, hb19⟩
          have B19x := Lib.hid (B18x.out.trans (hb19.mono B18x.out.size))
          clear I16'' I18 hb19 B18x
          go_wp2_with fail
          refine (AL.out.a6 _ _ _ (FA.out _ B19x.out) (FA.out _ B19x.out)).mono ?_
          rintro e w20 ⟨v20, rfl, h20, hb20⟩
          have I20 := Lib.hid h20
          have B20x := Lib.hid (B19x.out.trans (hb20.mono B19x.out.size))
          clear h20 hb20 B19x
          go_wp2_with fail
          refine (AL.out.sa _ _ _ I20.out (FA.out _ B20x.out)).mono ?_
          rintro e w21 ⟨rfl, hb21⟩
          have B21x := Lib.hid (B20x.out.trans (hb21.mono B20x.out.size))
          clear I20 hb21 B20x
          go_wp2_with fail
          refine (AL.out.o6 _ _ _ (FA.out _ B21x.out) (FA.out _ B21x.out)).mono ?_
          rintro e w22 ⟨v22, rfl, h22, hb22⟩
          have I22 := Lib.hid h22
          have B22x := Lib.hid (B21x.out.trans (hb22.mono B21x.out.size))
          clear h22 hb22 B21x
          go_wp2_with fail
          refine (AL.out.sa _ _ _ I22.out (FA.out _ B22x.out)).mono ?_
          rintro e w23 ⟨rfl, hb23⟩
          have B23x := Lib.hid (B22x.out.trans (hb23.mono B22x.out.size))
          clear I22 hb23 B22x
          go_wp2_with fail
          refine (AL.out.o3 _ _ _ (FB.out _ B23x.out) (FC.out _ B23x.out)).mono ?_
          rintro e w24 ⟨v24, rfl, h24, hb24⟩
          have I24 := Lib.hid h24
          have B24x := Lib.hid (B23x.out.trans (hb24.mono B23x.out.size))
          clear h24 hb24 B23x
          go_wp2_with fail
          refine (AL.out.a7 _ _ _ (FA.out _ B24x.out) I24.out).mono ?_
          rintro e w25 ⟨v25, rfl, h25, hb25⟩
          have I25 := Lib.hid h25
          have B25x := Lib.hid (B24x.out.trans (hb25.mono B24x.out.size))
          clear I24 h25 hb25 B24x
          go_wp2_with fail
          refine (AL.out.a1 _ _ _ (FA.out _ B25x.out) (FB.out _ B25x.out)).mono ?_
          rintro e w26 ⟨v26, rfl, h26, hb26⟩
          have I25' := Lib.hid ((I25.out.below hb26).mono hb26.size)
          have I26 := Lib.hid h26
          have B26x := Lib.hid (B25x.out.trans (hb26.mono B25x.out.size))
          clear I25 h26 hb26 B25x
          go_wp2_with fail
          refine (AL.out.a8 _ _ _ (FA.out _ B26x.out) (FC.out _ B26x.out)).mono ?_
          rintro e w27 ⟨v27, rfl, h27, hb27⟩
          have I25'' := Lib.hid ((I25'.out.below hb27).mono hb27.size)
          have I26' := Lib.hid ((I26.out.below hb27).mono hb27.size)
          have I27 := Lib.hid h27
          have B27x := Lib.hid (B26x.out.trans (hb27.mono B26x.out.size))
          clear I25' I26 h27 hb27 B26x
          go_wp2_with fail
          refine (AL.out.o7 _ _ _ I26'.out I27.out).mono ?_
          rintro e w28 ⟨v28, rfl, h28, hb28⟩
          have I25''' := Lib.hid ((I25''.out.below hb28).mono hb28.size)
          have I28 := Lib.hid h28
          have B28x := Lib.hid (B27x.out.trans (hb28.mono B27x.out.size))
          clear I26' I27 I25'' h28 hb28 B27x
          go_wp2_with fail
          refine (AL.out.sd1 _ _ _ I25'''.out I28.out).mono ?_
          rintro e w29 ⟨rfl, hb29⟩
          have B29x := Lib.hid (B28x.out.trans (hb29.mono B28x.out.size))
          clear I25''' I28 hb29 B28x
          go_wp2_with fail
          refine (AL.out.a3 _ _ _ (FB.out _ B29x.out) (FC.out _ B29x.out)).mono ?_
          rintro e w30 ⟨v30, rfl, h30, hb30⟩
          have I30 := Lib.hid h30
          have B30x := Lib.hid (B29x.out.trans (hb30.mono B29x.out.size))
          clear h30 hb30 B29x
          go_wp2_with fail
          refine (AL.out.o8 _ _ _ (FA.out _ B30x.out) I30.out).mono ?_
          rintro e w31 ⟨v31, rfl, h31, hb31⟩
          have I31 := Lib.hid h31
          have B31x := Lib.hid (B30x.out.trans (hb31.mono B30x.out.size))
          clear I30 h31 hb31 B30x
          go_wp2_with fail
          refine (AL.out.o1 _ _ _ (FA.out _ B31x.out) (FB.out _ B31x.out)).mono ?_
          rintro e w32 ⟨v32, rfl, h32, hb32⟩
          have I31' := Lib.hid ((I31.out.below hb32).mono hb32.size)
          have I32 := Lib.hid h32
          have B32x := Lib.hid (B31x.out.trans (hb32.mono B31x.out.size))
          clear I31 h32 hb32 B31x
          go_wp2_with fail
          refine (AL.out.o9 _ _ _ (FA.out _ B32x.out) (FC.out _ B32x.out)).mono ?_
          rintro e w33 ⟨v33, rfl, h33, hb33⟩
          have I31'' := Lib.hid ((I31'.out.below hb33).mono hb33.size)
          have I32' := Lib.hid ((I32.out.below hb33).mono hb33.size)
          have I33 := Lib.hid h33
          have B33x := Lib.hid (B32x.out.trans (hb33.mono B32x.out.size))
          clear I31' I32 h33 hb33 B32x
          go_wp2_with fail
          refine (AL.out.a9 _ _ _ I32'.out I33.out).mono ?_
          rintro e w34 ⟨v34, rfl, h34, hb34⟩
          have I31''' := Lib.hid ((I31''.out.below hb34).mono hb34.size)
          have I34 := Lib.hid h34
          have B34x := Lib.hid (B33x.out.trans (hb34.mono B33x.out.size))
          clear I32' I33 I31'' h34 hb34 B33x
          go_wp2_with fail
          refine (AL.out.sd2 _ _ _ I31'''.out I34.out).mono ?_
          rintro e w35 ⟨rfl, hb35⟩
          have B35x := Lib.hid (B34x.out.trans (hb35.mono B34x.out.size))
          clear I31''' I34 hb35 B34x
          go_wp2_with fail
          refine (AL.out.x1 _ _ _ (FA.out _ B35x.out) (FB.out _ B35x.out)).mono ?_
          rintro e w36 ⟨v36, rfl, h36, hb36⟩
          have I36 := Lib.hid h36
          have B36x := Lib.hid (B35x.out.trans (hb36.mono B35x.out.size))
          clear h36 hb36 B35x
          go_wp2_with fail
          refine (AL.out.x2 _ _ _ I36.out (FC.out _ B36x.out)).mono ?_
          rintro e w37 ⟨v37, rfl, h37, hb37⟩
          have I37 := Lib.hid h37
          have B37x := Lib.hid (B36x.out.trans (hb37.mono B36x.out.size))
          clear I36 h37 hb37 B36x
          go_wp2_with fail
          refine (AL.out.o3 _ _ _ (FB.out _ B37x.out) (FC.out _ B37x.out)).mono ?_
          rintro e w38 ⟨v38, rfl, h38, hb38⟩
          have I37' := Lib.hid ((I37.out.below hb38).mono hb38.size)
          have I38 := Lib.hid h38
          have B38x := Lib.hid (B37x.out.trans (hb38.mono B37x.out.size))
          clear I37 h38 hb38 B37x
          go_wp2_with fail
          refine (AL.out.x3 _ _ _ (FA.out _ B38x.out) I38.out).mono ?_
          rintro e w39 ⟨v39, rfl, h39, hb39⟩
          have I37'' := Lib.hid ((I37'.out.below hb39).mono hb39.size)
          have I39 := Lib.hid h39
          have B39x := Lib.hid (B38x.out.trans (hb39.mono B38x.out.size))
          clear I38 I37' h39 hb39 B38x
          go_wp2_with fail
          refine (AL.out.sw2 _ _ _ I37''.out I39.out).mono ?_
          rintro e w40 ⟨rfl, hb40⟩
          have B40x := Lib.hid (B39x.out.trans (hb40.mono B39x.out.size))
          clear I37'' I39 hb40 B39x
          go_wp2_with fail
          refine (CA.out _).mono ?_
          rintro e w41 ⟨rfl, hb41⟩
          have B41x := Lib.hid (B40x.out.trans (hb41.mono B40x.out.size))
          clear hb41 B40x
          go_wp2
          go_ret
          exact ⟨rfl, B41x.out⟩
        · have hne : (chk c != 0) = true := by rw [bne_iff_ne]; exact h3
          rw [h1] at C1
          rw [h2] at C2
          clear h1 h2 h3
          generalize chk c = q at *
          obtain ⟨_, _, rfl, _⟩ := hX
          obtain ⟨_, _, rfl, _⟩ := hY
          obtain ⟨_, _, rfl, _⟩ := hZ
          go_enter Try.func8, Try.ntmps8
          go_wp2_with fail
          refine CG.out.mono ?_
          rintro e w0 ⟨rfl, rfl⟩
          go_wp2_with fail
          refine (C1.out _ B0.out).mono ?_
          rintro e w1 ⟨rfl, hb1⟩
          have B1x := Lib.hid (B0.out.trans (hb1.mono B0.out.size))
          clear hb1
          go_wp2_with fail
          refine (C2.out _ B1x.out).mono ?_
          rintro e w2 ⟨rfl, hb2⟩
          have B2x := Lib.hid (B1x.out.trans (hb2.mono B1x.out.size))
          clear hb2 B1x
          go_wp2_with fail
          refine (C3.out _ B2x.out).mono ?_
          rintro e w3 ⟨rfl, hb3⟩
          have B3x := Lib.hid (B2x.out.trans (hb3.mono B2x.out.size))
          clear hb3 B2x
          go_wp2_with fail
          refine (CA.out _).mono ?_
          rintro e w4 ⟨rfl, hb4⟩
          have B4x := Lib.hid (B3x.out.trans (hb4.mono B3x.out.size))
          clear hb4 B3x
          go_wp2
          go_ret
          exact ⟨rfl, B4x.out⟩
      · have hne : (chk b != 0) = true := by rw [bne_iff_ne]; exact h2
        rw [h1] at C1
        clear h1 h2
        generalize chk b = q at *
        obtain ⟨_, _, rfl, _⟩ := hX
        obtain ⟨_, _, rfl, _⟩ := hY
        obtain ⟨_, _, rfl, _⟩ := hZ
        go_enter Try.func8, Try.ntmps8
        go_wp2_with fail
        refine CG.out.mono ?_
        rintro e w0 ⟨rfl, rfl⟩
        go_wp2_with fail
        refine (C1.out _ B0.out).mono ?_
        rintro e w1 ⟨rfl, hb1⟩
        have B1x := Lib.hid (B0.out.trans (hb1.mono B0.out.size))
        clear hb1
        go_wp2_with fail
        refine (C2.out _ B1x.out).mono ?_
        rintro e w2 ⟨rfl, hb2⟩
        have B2x := Lib.hid (B1x.out.trans (hb2.mono B1x.out.size))
        clear hb2 B1x
        go_wp2_with fail
        refine (CA.out _).mono ?_
        rintro e w3 ⟨rfl, hb3⟩
        have B3x := Lib.hid (B2x.out.trans (hb3.mono B2x.out.size))
        clear hb3 B2x
        go_wp2
        go_ret
        exact ⟨rfl, B3x.out⟩
    · have hne : (chk a != 0) = true := by rw [bne_iff_ne]; exact h1
      clear h1
      generalize chk a = q at *
      obtain ⟨_, _, rfl, _⟩ := hX
      obtain ⟨_, _, rfl, _⟩ := hY
      obtain ⟨_, _, rfl, _⟩ := hZ
      go_enter Try.func8, Try.ntmps8
      go_wp2_with fail
      refine CG.out.mono ?_
      rintro e w0 ⟨rfl, rfl⟩
      go_wp2_with fail
      refine (C1.out _ B0.out).mono ?_
      rintro e w1 ⟨rfl, hb1⟩
      have B1x := Lib.hid (B0.out.trans (hb1.mono B0.out.size))
      clear hb1
      go_wp2_with fail
      refine (CA.out _).mono ?_
      rintro e w2 ⟨rfl, hb2⟩
      have B2x := Lib.hid (B1x.out.trans (hb2.mono B1x.out.size))
      clear hb2 B1x
      go_wp2
      go_ret
      exact ⟨rfl, B2x.out⟩
end Go.Proofs.Ytejnmjaclhmelaa.Po
