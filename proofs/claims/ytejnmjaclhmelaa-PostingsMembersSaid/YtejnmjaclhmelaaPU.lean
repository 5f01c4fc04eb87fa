/- Layer 8: the walk of the law PostingsMembers. -/
import Derived.Test.YtejnmjaclhmelaaPO
import Derived.Test.YtejnmjaclhmelaaSO
set_option linter.unusedVariables false
set_option linter.unusedSimpArgs false
namespace Go.Proofs.Ytejnmjaclhmelaa.Po
open Go.RowKit
theorem mAnd (l m : List Int) (hl : Val l) (hm : Val m) (h1 : l.length ≤ 400000) (h2 : m.length ≤ 400000) (v : World) (sl sm : Value) (hL : Ints v.heap.size v sl l) (hM : Ints v.heap.size v sm m) : Calls Try.prog 17 #[sl, sm] v (IntsOut v (andL l m)) := by
  have q := gAnd_any l m (by omega) (by omega) sl sm v hL hM
  rwa [fltO_ok (chk_zero.2 hl) (chk_zero.2 hm), ← and_flt] at q
theorem mWi (l m : List Int) (hl : Val l) (hm : Val m) (h1 : l.length ≤ 400000) (h2 : m.length ≤ 400000) (v : World) (sl sm : Value) (hL : Ints v.heap.size v sl l) (hM : Ints v.heap.size v sm m) : Calls Try.prog 21 #[sl, sm] v (IntsOut v (wiL l m)) := by
  have q := gWithout_any l m (by omega) (by omega) sl sm v hL hM
  rwa [fltO_ok (chk_zero.2 hl) (chk_zero.2 hm), ← wi_flt] at q
theorem mOr (l m : List Int) (hl : Val l) (hm : Val m) (h1 : l.length ≤ 400000) (h2 : m.length ≤ 400000) (v : World) (sl sm : Value) (hL : Ints v.heap.size v sl l) (hM : Ints v.heap.size v sm m) : Calls Try.prog 19 #[sl, sm] v (IntsOut v (orL l m)) := by
  have q := gOr_any l m h1 h2 sl sm v hL hM
  have e : orO l m = orL l m := mrgO_ok fun k hk => by
    simp only [List.mem_cons, List.not_mem_nil, or_false] at hk
    rcases hk with rfl | rfl
    · exact chk_zero.2 hl
    · exact chk_zero.2 hm
  rwa [e] at q
theorem has_and (a b : List Int) (y : Int) : hasB y (andL a b) = (hasB y a && hasB y b) := by
  unfold hasB
  by_cases h1 : y ∈ a <;> by_cases h2 : y ∈ b <;> simp [mem_and, h1, h2]
theorem has_or (a b : List Int) (y : Int) : hasB y (orL a b) = (hasB y a || hasB y b) := by
  unfold hasB
  by_cases h1 : y ∈ a <;> by_cases h2 : y ∈ b <;> simp [mem_or, h1, h2]
theorem has_wi (a b : List Int) (y : Int) : hasB y (wiL a b) = (hasB y a && !hasB y b) := by
  unfold hasB
  by_cases h1 : y ∈ a <;> by_cases h2 : y ∈ b <;> simp [mem_wi, h1, h2]
/-- What the law asks of each number; of the five lists. -/
structure Mem5 (a b an o wi : List Int) (sa sb sn so si : Value) (W : World) : Prop where
  ia : Ints W.heap.size W sa a
  ib : Ints W.heap.size W sb b
  in_ : Ints W.heap.size W sn an
  io : Ints W.heap.size W so o
  iw : Ints W.heap.size W si wi
theorem full_own {B : Nat} {w : World} {A : Option Addr} {c : Nat} {x : Int} {l : List Int} (h : w.ownsRow B 3 1 (.slice A (1 + l.length) c) (1 + l.length) ([.int .i64 x] ++ ic l)) : ∃ full : List Int, 1 + l.length = full.length ∧ w.ownsRow B 3 1 (.slice A full.length c) full.length (ic full) := by
  have e : 1 + l.length = (x :: l).length := by rw [List.length_cons]; omega
  refine ⟨x :: l, e, ?_⟩
  rw [← e]
  exact h
theorem IntsL.three' {w : World} {bk : Nat} {sx sy sz : Value} {xs ys zs : List Int} (hbk : w.heap.size = bk) (hX : Ints w.heap.size w sx xs) (hY : Ints w.heap.size w sy ys) (hZ : Ints w.heap.size w sz zs) : IntsL (w.alloc (.cells #[sx, sy, sz] 22)).heap.size (w.alloc (.cells #[sx, sy, sz] 22)) (.slice (some ⟨bk, 0, none⟩) 3 3) [xs, ys, zs] := by
  subst hbk
  have B0 : Below w.heap.size w (w.alloc (.cells #[sx, sy, sz] 22)) := (Below.refl _ _).alloc (Nat.le_refl _) _
  refine ⟨_, 3, rfl, fun j => if j = 0 then sx else if j = 1 then sy else sz, fun _ => ⟨_, 0, rfl, by simp, fun j hj => ?_⟩, fun j hj => ?_⟩
  · match j, hj with
    | 0, _ => go_simp
    | 1, _ => go_simp
    | 2, _ => go_simp
  · match j, hj with
    | 0, _ => exact (hX.below B0).mono (by simp)
    | 1, _ => exact (hY.below B0).mono (by simp)
    | 2, _ => exact (hZ.below B0).mono (by simp)
set_option maxHeartbeats 8000000 in
set_option maxRecDepth 100000 in
theorem members_walk (a : List Int) (sa : Value) (b : List Int) (sb : Value) (x : Int) (w : World) (hla : a.length ≤ maxLen) (hlb : b.length ≤ maxLen) (hx0 : (Lit.int .i64 x).wf = true) (hX : Ints w.heap.size w sa a) (hY : Ints w.heap.size w sb b) :
    Calls Try.prog 7 #[sa, sb, .int .i64 x] w fun e w' => e = .returned (.bool true) ∧ Below w.heap.size w w' := by
  obtain ⟨i0, hi, hz0, hz1, hz2⟩ := info_parts infoI
  have CG := Lib.hid (great_any [a, b] (by unfold maxLen; simp) _ _ (IntsL.two hX hY))
  have B0 : Hid (Below w.heap.size w (w.alloc (.cells #[sa, sb] 22))) := Lib.hid ((Below.refl _ _).alloc (Nat.le_refl _) _)
  have CA := Lib.hid awake_any
  have FA : Hid (∀ v, Below w.heap.size w v → Ints v.heap.size v sa a) := Lib.hid fun v hb => hX.onto hb
  have FB : Hid (∀ v, Below w.heap.size w v → Ints v.heap.size v sb b) := Lib.hid fun v hb => hY.onto hb
  clear hx0
  cases hg : greatB [a, b] with
  | true =>
    rw [hg] at CG
    clear hg FA FB
    obtain ⟨a1, c1, rfl, _⟩ := hX
    obtain ⟨a2, c2, rfl, _⟩ := hY
    go_enter Try.func7, Try.ntmps7
    go_wp2_with fail
    refine CG.out.mono ?_
    rintro e w0 ⟨rfl, rfl⟩
    go_wp2_with fail
    refine (CA.out _).mono ?_
    rintro e w1 ⟨rfl, hb1⟩
    have B1 := Lib.hid (B0.out.trans (hb1.mono B0.out.size))
    clear hb1
    go_wp2
    go_ret
    exact ⟨rfl, B1.out⟩
  | false =>
    obtain ⟨_, hle⟩ := great_no hg
    have la : a.length ≤ 40 := hle a (by simp)
    have lb : b.length ≤ 40 := hle b (by simp)
    rw [hg] at CG
    have C1 : Hid (∀ v, Below w.heap.size w v → Calls Try.prog 14 #[sa] v fun e w' => e = .returned (.int .i64 (chk a)) ∧ Below v.heap.size v w') := Lib.hid fun v hb => gCheck_any a (by omega) sa v (FA.out v hb)
    have C2 : Hid (∀ v, Below w.heap.size w v → Calls Try.prog 14 #[sb] v fun e w' => e = .returned (.int .i64 (chk b)) ∧ Below v.heap.size v w') := Lib.hid fun v hb => gCheck_any b (by omega) sb v (FB.out v hb)
    clear hg hle hla hlb
    by_cases h1 : chk a = 0
    · by_cases h2 : chk b = 0
      · have va := chk_zero.1 h1
        have vb := chk_zero.1 h2
        rw [h1] at C1
        rw [h2] at C2
        have hol := or_len va vb
        have hwl := wi_len a b
        have PA : Hid (∀ y, hasB y (andL a b) = (hasB y a && hasB y b)) := Lib.hid (has_and a b)
        have PO : Hid (∀ y, hasB y (orL a b) = (hasB y a || hasB y b)) := Lib.hid (has_or a b)
        have PW : Hid (∀ y, hasB y (wiL a b) = (hasB y a && !hasB y b)) := Lib.hid (has_wi a b)
        have DA : Hid (∀ v, Below w.heap.size w v → Calls Try.prog 17 #[sa, sb] v (IntsOut v (andL a b))) := Lib.hid fun v hb => mAnd a b va vb (by omega) (by omega) v sa sb (FA.out v hb) (FB.out v hb)
        have DO : Hid (∀ v, Below w.heap.size w v → Calls Try.prog 19 #[sa, sb] v (IntsOut v (orL a b))) := Lib.hid fun v hb => mOr a b va vb (by omega) (by omega) v sa sb (FA.out v hb) (FB.out v hb)
        have DW : Hid (∀ v, Below w.heap.size w v → Calls Try.prog 21 #[sa, sb] v (IntsOut v (wiL a b))) := Lib.hid fun v hb => mWi a b va vb (by omega) (by omega) v sa sb (FA.out v hb) (FB.out v hb)
        have KK : Hid (∀ l v sl, chk l = 0 → l.length ≤ 80 → Ints v.heap.size v sl l → Calls Try.prog 14 #[sl] v fun e w' => e = .returned (.int .i64 0) ∧ Below v.heap.size v w') := Lib.hid fun l v sl h1 h2 h3 => by
          have h := gCheck_any l (by omega) sl v h3
          rwa [h1] at h
        have ka := chk_zero.2 (va.and_ b)
        have ko := chk_zero.2 (va.or_ vb)
        have kw := chk_zero.2 (va.wi b)
        have KA := Lib.hid fun v sl => KK.out _ v sl ka (by omega)
        have KO := Lib.hid fun v sl => KK.out _ v sl ko (by omega)
        have KW := Lib.hid fun v sl => KK.out _ v sl kw (by omega)
        clear KK ka ko kw h1 h2
        generalize andL a b = an at *
        generalize orL a b = o at *
        generalize wiL a b = wi at *
        have KC : Hid (∀ l v sl y, l.length ≤ 80 → Ints v.heap.size v sl l → Calls Try.prog 32 #[sl, .int .i64 y] v fun e w' => e = .returned (.bool (hasB y l)) ∧ v = w') := Lib.hid fun l v sl y h1 h2 => conN_any l (by omega) sl y v h2
        have QA := Lib.hid fun v sl y => KC.out a v sl y (by omega)
        have QB := Lib.hid fun v sl y => KC.out b v sl y (by omega)
        have QN := Lib.hid fun v sl y => KC.out an v sl y (by omega)
        have QO := Lib.hid fun v sl y => KC.out o v sl y (by omega)
        have QW := Lib.hid fun v sl y => KC.out wi v sl y (by omega)
        have KCC : Hid (∀ v ss, IntsL v.heap.size v ss [a, b, o] → Calls Try.prog 31 #[ss] v (IntsOut v [a, b, o].flatten)) := Lib.hid fun v ss h => concat_any _ (by simp) (by simp [tot]; omega) ss v h
        have hfl : ([a, b, o] : List (List Int)).flatten.length ≤ 200 := by simp; omega
        generalize ([a, b, o] : List (List Int)).flatten = fl at *
        have e1 : ((an.length : Int) + o.length != (a.length : Int) + b.length) = false := by rw [bne_eq_false_iff_eq]; omega
        have e2 : ((wi.length : Int) != (a.length : Int) - an.length) = false := by rw [bne_eq_false_iff_eq]; omega
        have e3 : an.length ≤ 80 := by omega
        have e4 : o.length ≤ 80 := by omega
        have e5 : wi.length ≤ 80 := by omega
        clear KC va vb hol hwl
        obtain ⟨a1, c1, rfl, _⟩ := hX
        obtain ⟨a2, c2, rfl, _⟩ := hY
        go_enter Try.func7, Try.ntmps7
        go_wp2_with fail
        refine CG.out.mono ?_
        rintro e w0 ⟨rfl, rfl⟩
        go_wp2_with fail
        refine (C1.out _ B0.out).mono ?_
        rintro e w1 ⟨rfl, hb1⟩
        have B1 := Lib.hid (B0.out.trans (hb1.mono B0.out.size))
        clear hb1
        go_wp2_with fail
        refine (C2.out _ B1.out).mono ?_
        rintro e w2 ⟨rfl, hb2⟩
        have B2 := Lib.hid (B1.out.trans (hb2.mono B1.out.size))
        clear hb2
        go_wp2_with fail
        refine (DA.out _ B2.out).mono ?_
        rintro e w3 ⟨v3, rfl, h3, hb3⟩
        have B3 := Lib.hid (B2.out.trans (hb3.mono B2.out.size))
        have N3 := Lib.hid h3
        clear h3
        clear hb3
        go_wp2_with fail
        refine (DO.out _ B3.out).mono ?_
        rintro e w4 ⟨v4, rfl, h4, hb4⟩
        have B4 := Lib.hid (B3.out.trans (hb4.mono B3.out.size))
        have N4 := Lib.hid (N3.out.onto hb4)
        have O4 := Lib.hid h4
        clear h4 N3
        clear hb4
        go_wp2_with fail
        refine (DW.out _ B4.out).mono ?_
        rintro e w5 ⟨v5, rfl, h5, hb5⟩
        have B5 := Lib.hid (B4.out.trans (hb5.mono B4.out.size))
        have N5 := Lib.hid (N4.out.onto hb5)
        have O5 := Lib.hid (O4.out.onto hb5)
        have W5 := Lib.hid h5
        clear h5 N4 O4
        clear hb5
        go_wp2_with fail
        refine (KA.out _ _ N5.out).mono ?_
        rintro e w6 ⟨rfl, hb6⟩
        have B6 := Lib.hid (B5.out.trans (hb6.mono B5.out.size))
        have N6 := Lib.hid (N5.out.onto hb6)
        have O6 := Lib.hid (O5.out.onto hb6)
        have W6 := Lib.hid (W5.out.onto hb6)
        clear N5 O5 W5
        clear hb6
        go_wp2_with fail
        refine (KO.out _ _ O6.out).mono ?_
        rintro e w7 ⟨rfl, hb7⟩
        have B7 := Lib.hid (B6.out.trans (hb7.mono B6.out.size))
        have N7 := Lib.hid (N6.out.onto hb7)
        have O7 := Lib.hid (O6.out.onto hb7)
        have W7 := Lib.hid (W6.out.onto hb7)
        clear N6 O6 W6
        clear hb7
        go_wp2_with fail
        refine (KW.out _ _ W7.out).mono ?_
        rintro e w8 ⟨rfl, hb8⟩
        have B8 := Lib.hid (B7.out.trans (hb8.mono B7.out.size))
        have N8 := Lib.hid (N7.out.onto hb8)
        have O8 := Lib.hid (O7.out.onto hb8)
        have W8 := Lib.hid (W7.out.onto hb8)
        clear N7 O7 W7
        clear hb8
        obtain ⟨nA, nC, rfl, _⟩ := N8.out
        obtain ⟨oA, oC, rfl, _⟩ := O8.out
        obtain ⟨iA, iC, rfl, _⟩ := W8.out
        have M8 := Lib.hid (Mem5.mk (FA.out _ B8.out) (FB.out _ B8.out) N8.out O8.out W8.out)
        clear N8 O8 W8 FA FB DA DO DW C1 C2 KA KO KW B0 B1 B2 B3 B4 B5 B6 B7
        clear CG
        have A9 : Hid (Below w8.heap.size w8 (w8.alloc (.cells #[.int .i64 x] 3))) := Lib.hid ((Below.refl _ _).alloc (Nat.le_refl _) _)
        have RO : Hid ((w8.alloc (.cells #[.int .i64 x] 3)).ownsRow w8.heap.size 3 1 (.slice (some ⟨w8.heap.size, 0, none⟩) 1 1) 1 [.int .i64 x]) := Lib.hid ⟨rfl, .inr ⟨w8.heap.size, 1, #[.int .i64 x], rfl, Nat.le_refl _, heap_alloc_new w8 _, Nat.le_refl _, by unfold maxLen; omega, rfl, by simp⟩⟩
        have L9 := Lib.hid (IntsL.three' (bk := w8.heap.size + 1) (by simp) (M8.out.ia.onto A9.out) (M8.out.ib.onto A9.out) (M8.out.io.onto A9.out))
        have A10 : Hid (Below w8.heap.size w8 ((w8.alloc (.cells #[.int .i64 x] 3)).alloc (.cells #[(.slice a1 a.length c1), (.slice a2 b.length c2), .slice oA o.length oC] 22))) := Lib.hid (A9.out.alloc A9.out.size _)
        have RO2 := Lib.hid (RO.out.alloc (.cells #[(.slice a1 a.length c1), (.slice a2 b.length c2), .slice oA o.length oC] 22))
        go_wp2_with fail
        refine (KCC.out _ _ L9.out).mono ?_
        rintro e w9 ⟨v9, rfl, h9, hb9⟩
        obtain ⟨rA, rc, rfl, hR⟩ := h9.reads
        have RR := Lib.hid hR
        have RO3 := Lib.hid (own_belowP RO2.out hb9)
        have hb89 : Below w8.heap.size w8 w9 := A10.out.trans (hb9.mono A10.out.size)
        have A11 := Lib.hid hb89
        have hz9 := hb89.size
        have H1 := Lib.hid (ic_one fl)
        clear hb9 h9 hR hb89 RO RO2 L9 A9 A10 KCC
        go_wp2_with (at_builtin; refine wpList_append_any _ rfl (.tmp 75) (.tmp 80) 22 rfl w8.heap.size 3 i0 _ 1 8 Try.underlying22 hi hz0 hz1 hz2 rfl (by decide) (.slice (some ⟨w8.heap.size, 0, none⟩) 1 1) 1 [.int .i64 x] rfl RO3.out w9.heap.size rA fl.length rc (ic fl) rfl RR.out H1.out (by simp only [maxLen]; omega) (by omega) hz9 ?_; intro v10 w10 ho hg _; have A12 := Lib.hid (A11.out.grown hg hz9 (fun g e => (World.ownsRow.lt RO3.out g e).1)); obtain ⟨fA, fC, ef⟩ := own_form ho; subst ef; obtain ⟨full, hfe, hof⟩ := full_own ho; have F12 : Hid (Ints w10.heap.size w10 (.slice fA full.length fC) full) := Lib.hid (Ints.of_own hof (Nat.le_refl _)); rw [hfe]; clear ho hg hof)
        have hful : full.length ≤ 201 := by omega
        have M10 : Hid (Mem5 a b an o wi (.slice a1 a.length c1) (.slice a2 b.length c2) (.slice nA an.length nC) (.slice oA o.length oC) (.slice iA wi.length iC) w10) := Lib.hid ⟨M8.out.ia.onto A12.out, M8.out.ib.onto A12.out, M8.out.in_.onto A12.out, M8.out.io.onto A12.out, M8.out.iw.onto A12.out⟩
        have B10 := Lib.hid (B8.out.trans (A12.out.mono B8.out.size))
        obtain ⟨A3, C3, ev, hcx⟩ := F12.out.at
        injection ev with ea _ ec
        subst ea ec
        have HX := Lib.hid hcx
        clear hcx F12 M8 RO3 RR A11 A12 B8 H1 hfe hz9
        go_loopw [83] (fun vi wr => ∃ k : Nat, k ≤ full.length ∧ vi = .int .i64 k ∧ Hid (Below w10.heap.size w10 wr)) (fun vi _ => full.length - (intOf vi).toNat)
        case atStart => exact ⟨0, Nat.zero_le _, rfl, Lib.hid (Below.refl _ _)⟩
        case round =>
          obtain ⟨k, hk, rfl, HB⟩ := hrel
          by_cases hlt : k < full.length
          · obtain ⟨fb, fo, rfl, hb, hc⟩ := HX.out (List.ne_nil_of_length_pos (by omega))
            have hcell := (HB.out.cell (p := ⟨fb, fo + k, none⟩) hb).trans (hc k hlt)
            have hi2 : (k : Int) < full.length := by omega
            clear hc HX
            generalize full[k]?.getD 0 = y at *
            have RA := Lib.hid (QA.out wr _ y (M10.out.ia.onto HB.out))
            have RB := Lib.hid (QB.out wr _ y (M10.out.ib.onto HB.out))
            have RN := Lib.hid (QN.out wr _ y (M10.out.in_.onto HB.out))
            have RO := Lib.hid (QO.out wr _ y (M10.out.io.onto HB.out))
            have RW := Lib.hid (QW.out wr _ y (M10.out.iw.onto HB.out))
            rw [PA.out y] at RN
            rw [PO.out y] at RO
            rw [PW.out y] at RW
            clear QA QB QN QO QW PA PO PW M10 CA
            generalize hasB y a = p at *
            generalize hasB y b = q at *
            cases p <;> cases q <;> (
              simp only [Bool.true_and, Bool.false_and, Bool.true_or, Bool.false_or, Bool.not_true, Bool.not_false] at RN RO RW
              go_wp2_with fail
              refine RA.out.mono ?_
              rintro e w11 ⟨rfl, rfl⟩
              go_wp2_with fail
              refine RB.out.mono ?_
              rintro e w11 ⟨rfl, rfl⟩
              go_wp2_with fail
              refine RN.out.mono ?_
              rintro e w11 ⟨rfl, rfl⟩
              go_wp2_with fail
              refine RO.out.mono ?_
              rintro e w11 ⟨rfl, rfl⟩
              go_wp2_with fail
              refine RW.out.mono ?_
              rintro e w11 ⟨rfl, rfl⟩
              clear RA RB RN RO RW
              go_wp2
              go_roundw
              case rel => exact ⟨k + 1, by omega, by go_num, HB⟩
              case measure => simp [intOf]; omega)
          · have hnlt : ¬ (k : Int) < full.length := by omega
            have BX := Lib.hid (B10.out.trans (HB.out.mono B10.out.size))
            clear HX QA QB QN QO QW PA PO PW M10
            go_wp2_with fail
            refine (CA.out _).mono ?_
            rintro e w12 ⟨rfl, hb12⟩
            have B12 := Lib.hid (BX.out.trans (hb12.mono BX.out.size))
            clear hb12
            go_wp2
            go_ret
            exact ⟨rfl, B12.out⟩
      · have hne : (chk b != 0) = true := bne_yes h2
        rw [h1] at C1
        clear h1 h2 FA FB
        generalize chk b = q at *
        obtain ⟨a1, c1, rfl, _⟩ := hX
        obtain ⟨a2, c2, rfl, _⟩ := hY
        go_enter Try.func7, Try.ntmps7
        go_wp2_with fail
        refine CG.out.mono ?_
        rintro e w0 ⟨rfl, rfl⟩
        go_wp2_with fail
        refine (C1.out _ B0.out).mono ?_
        rintro e w1 ⟨rfl, hb1⟩
        have B1 := Lib.hid (B0.out.trans (hb1.mono B0.out.size))
        clear hb1
        go_wp2_with fail
        refine (C2.out _ B1.out).mono ?_
        rintro e w2 ⟨rfl, hb2⟩
        have B2 := Lib.hid (B1.out.trans (hb2.mono B1.out.size))
        clear hb2
        go_wp2_with fail
        refine (CA.out _).mono ?_
        rintro e w3 ⟨rfl, hb3⟩
        have B3 := Lib.hid (B2.out.trans (hb3.mono B2.out.size))
        clear hb3
        go_wp2
        go_ret
        exact ⟨rfl, B3.out⟩
    · have hne : (chk a != 0) = true := bne_yes h1
      clear h1 FA FB
      generalize chk a = q at *
      obtain ⟨a1, c1, rfl, _⟩ := hX
      obtain ⟨a2, c2, rfl, _⟩ := hY
      go_enter Try.func7, Try.ntmps7
      go_wp2_with fail
      refine CG.out.mono ?_
      rintro e w0 ⟨rfl, rfl⟩
      go_wp2_with fail
      refine (C1.out _ B0.out).mono ?_
      rintro e w1 ⟨rfl, hb1⟩
      have B1 := Lib.hid (B0.out.trans (hb1.mono B0.out.size))
      clear hb1
      go_wp2_with fail
      refine (CA.out _).mono ?_
      rintro e w2 ⟨rfl, hb2⟩
      have B2 := Lib.hid (B1.out.trans (hb2.mono B1.out.size))
      clear hb2
      go_wp2
      go_ret
      exact ⟨rfl, B2.out⟩
end Go.Proofs.Ytejnmjaclhmelaa.Po
