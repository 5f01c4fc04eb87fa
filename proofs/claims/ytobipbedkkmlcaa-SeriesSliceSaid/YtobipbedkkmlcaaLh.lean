/- Layer 11: SeriesSlice. -/
import Derived.Test.YtobipbedkkmlcaaLd
import Derived.Test.YtobipbedkkmlcaaLg
set_option maxRecDepth 100000
set_option linter.unusedVariables false
set_option linter.unusedSimpArgs false
namespace Go.Proofs.Ytobipbedkkmlcaa.Sr
open Go.RowKit
set_option maxHeartbeats 2000000 in
theorem slice_walk (A : Option Addr) (c : Nat) (a : List S) (B : Option Addr) (d : Nat) (b : List S) (f t : Int) (w : World) (hA : LF w A c a) (hB : LF w B d b) :
    Calls Try.prog 7 #[.slice A a.length c, .slice B b.length d, .int .i64 f, .int .i64 t] w fun e w' => e = .returned (.bool true) ∧ Below w.heap.size w w' := by
  have KA := Lib.hid awake_any
  have KG := Lib.hid (fun g w (h : g = w.heap.size) => great2_any A B c d a b g w h)
  have B0 : Hid (∀ o1, Below w.heap.size w (w.alloc o1)) := Lib.hid fun o1 => (Below.refl _ _).alloc (Nat.le_refl _) _
  have BB := Lib.hid (B0.out (.cells #[.slice A a.length c, .slice B b.length d] 22))
  cases hg : (greatL a || greatL b) with
  | true =>
    rw [hg] at KG
    clear hA hB hg
    go_enter Try.func7, Try.ntmps7
    go_wp2_with fail
    with_reducible refine (KG.out _ _ (by simp)).mono ?_
    rintro e w0_ ⟨rfl, rfl⟩
    go_wp2_with fail
    with_reducible refine (KA.out _).mono ?_
    rintro e wz ⟨rfl, hb⟩
    have BB := Lib.hid (BB.out.trans (hb.mono BB.out.size))
    clear hb
    go_wp2
    go_ret
    exact ⟨rfl, BB.out⟩
  | false =>
    rw [hg] at KG
    rw [Bool.or_eq_false_iff] at hg
    have hla := not_great hg.1
    have hlb := not_great hg.2
    have LA := Lib.hid (hA.up BB.out)
    have LB := Lib.hid (hB.up BB.out)
    have K1 : Hid (∀ W, LF W A c a → Calls Try.prog 28 #[.slice A a.length c] W fun e w' => e = .returned (.bool (decide (chk 1 a = 0))) ∧ Below W.heap.size W w') := Lib.hid fun W h => rValid (by omega) h
    have K2 : Hid (∀ W, LF W B d b → Calls Try.prog 28 #[.slice B b.length d] W fun e w' => e = .returned (.bool (decide (chk 1 b = 0))) ∧ Below W.heap.size W w') := Lib.hid fun W h => rValid (by omega) h
    clear hA hB hg
    by_cases ha : chk 1 a = 0
    · rw [decide_eq_true ha] at K1
      by_cases hb : chk 1 b = 0
      · rw [decide_eq_true hb] at K2
        have hs := slc_len a f t
        have hs1 := slc_len a 0 t
        have hs2 := slc_len a t 1099511627776
        have hsb := slc_len b f t
        have K3 : Hid (∀ W, LF W A c a → Calls Try.prog 15 #[.slice A a.length c, .int .i64 0, .int .i64 t] W (Out (slcL a 0 t) W)) := Lib.hid fun W h => gSlice 0 t (by omega) h
        have K4 : Hid (∀ W, LF W A c a → Calls Try.prog 15 #[.slice A a.length c, .int .i64 t, .int .i64 1099511627776] W (Out (slcL a t 1099511627776) W)) := Lib.hid fun W h => gSlice t 1099511627776 (by omega) h
        have K5 : Hid (∀ V W A1 A2 d1 d2, LF V A1 d1 (slcL a 0 t) → LF V A2 d2 (slcL a t 1099511627776) → (W = (V.alloc (.cells #[.slice A1 (slcL a 0 t).length d1, .slice A2 (slcL a t 1099511627776).length d2] 22)).drew ∨ W = V.alloc (.cells #[.slice A1 (slcL a 0 t).length d1, .slice A2 (slcL a t 1099511627776).length d2] 22)) → Calls Try.prog 30 #[.slice (some ⟨V.heap.size, 0, none⟩) 2 2] W (Out (slcL a 0 t ++ slcL a t 1099511627776) V)) := Lib.hid fun V W A1 A2 d1 d2 h1 h2 hW => concat_out rfl rfl (by omega) (by omega) h1 h2 hW
        have K6 : Hid (∀ W A1 d1, LF W A1 d1 (slcL a 0 t ++ slcL a t 1099511627776) → LF W A c a → Calls Try.prog 14 #[.slice A1 (slcL a 0 t ++ slcL a t 1099511627776).length d1, .slice A a.length c] W fun e w' => e = .returned (.bool (decide (slcL a 0 t ++ slcL a t 1099511627776 = a))) ∧ Below W.heap.size W w') := Lib.hid fun W A1 d1 h1 h2 => gSame (by rw [List.length_append]; omega) (by omega) h1 h2
        have K7 : Hid (∀ W, LF W A c a → Calls Try.prog 15 #[.slice A a.length c, .int .i64 f, .int .i64 t] W (Out (slcL a f t) W)) := Lib.hid fun W h => gSlice f t (by omega) h
        have K8 : Hid (∀ W, LF W B d b → Calls Try.prog 15 #[.slice B b.length d, .int .i64 f, .int .i64 t] W (Out (slcL b f t) W)) := Lib.hid fun W h => gSlice f t (by omega) h
        have KC : Hid (∀ W (x : S), x ∈ a → LF W A c a → Calls Try.prog 27 #[.slice A a.length c, .agg #[.int .i64 x.1, .int .i64 x.2]] W fun e w' => e = .returned (.bool true) ∧ Below W.heap.size W w') := Lib.hid fun W x hx h => con_any x (by omega) hx h
        have HS : Hid (∀ x ∈ slcL a f t, x ∈ a ∧ f < x.1 ∧ x.1 ≤ t) := Lib.hid fun x hx => slc_mem.1 hx
        have hsm : Hid ((slcL a f t).length ≤ 24) := Lib.hid (by omega)
        have hQ : Hid (decide (slcL a 0 t ++ slcL a t 1099511627776 = a) = true ∨ t < 0 ∨ 1099511627776 < t) := Lib.hid (by
          by_cases h : 0 ≤ t ∧ t ≤ 1099511627776
          · exact .inl (decide_eq_true (slc_all (chk_one.1 ha).2 h.1 h.2))
          · exact .inr (by omega))
        have KM : Hid (∀ W, LF W A c a → LF W B d b → Calls Try.prog 25 #[.slice A a.length c, .slice B b.length d] W (Out2 (mrgO a b) W)) := Lib.hid fun W h k => gMerge (by omega) (by omega) h k
        have HM : Hid (mrgO a b = ([], 16) ∨ ∃ r, mrgO a b = (r, 0) ∧ r.length ≤ 48 ∧ (∀ W A1 d1 A2 d2, LF W A1 d1 (slcL a f t) → LF W A2 d2 (slcL b f t) → Calls Try.prog 25 #[.slice A1 (slcL a f t).length d1, .slice A2 (slcL b f t).length d2] W (Out2 (slcL r f t, 0) W)) ∧ (∀ W A1 d1, LF W A1 d1 r → Calls Try.prog 15 #[.slice A1 r.length d1, .int .i64 f, .int .i64 t] W (Out (slcL r f t) W)) ∧ (∀ W A1 d1 A2 d2, LF W A1 d1 (slcL r f t) → LF W A2 d2 (slcL r f t) → Calls Try.prog 14 #[.slice A1 (slcL r f t).length d1, .slice A2 (slcL r f t).length d2] W fun e w' => e = .returned (.bool true) ∧ Below W.heap.size W w')) := Lib.hid (by
          rcases mrgO_cases ha hb (by omega) with ⟨h, _⟩ | ⟨r, h, _, _, hr⟩
          · exact .inl h
          · have h2 := mrgO_slc (f := f) (t := t) ha hb h (by omega)
            have h3 := slc_len r f t
            refine .inr ⟨r, h, by omega, fun W A1 d1 A2 d2 k1 k2 => ?_, fun W A1 d1 k => gSlice f t (by omega) k, fun W A1 d1 A2 d2 k1 k2 => gSameT (by omega) k1 k2⟩
            have := gMerge (by omega) (by omega) k1 k2
            rw [h2] at this
            exact this)
        clear ha hb hs hs1 hs2 hsb hla hlb
        generalize slcL a 0 t = s1 at *
        generalize slcL a t 1099511627776 = s2 at *
        generalize decide (s1 ++ s2 = a) = q at *
        generalize slcL a f t = s at *
        generalize slcL b f t = sb at *
        generalize mrgO a b = mo at *
        generalize s1 ++ s2 = s12 at *
        cases q with
        | true =>
          go_enter Try.func7, Try.ntmps7
          go_wp2_with fail
          with_reducible refine (KG.out _ _ (by simp)).mono ?_
          rintro e w0_ ⟨rfl, rfl⟩
          go_wp2_with fail
          with_reducible refine (K1.out _ LA.out).mono ?_
          rintro e w1_ ⟨rfl, hb⟩
          have LA := Lib.hid (LA.out.up hb)
          have LB := Lib.hid (LB.out.up hb)
          have BB := Lib.hid (BB.out.trans (hb.mono BB.out.size))
          clear hb
          go_wp2_with fail
          with_reducible refine (K2.out _ LB.out).mono ?_
          rintro e w2_ ⟨rfl, hb⟩
          have LA := Lib.hid (LA.out.up hb)
          have LB := Lib.hid (LB.out.up hb)
          have BB := Lib.hid (BB.out.trans (hb.mono BB.out.size))
          clear hb
          go_wp2_with fail
          with_reducible refine (K3.out _ LA.out).mono ?_
          rintro e w3_ ⟨A1, c1, rfl, hl, hb⟩
          have LA := Lib.hid (LA.out.up hb)
          have LB := Lib.hid (LB.out.up hb)
          have BB := Lib.hid (BB.out.trans (hb.mono BB.out.size))
          clear hb
          have L1 := Lib.hid hl
          clear hl
          go_wp2_with fail
          with_reducible refine (K4.out _ LA.out).mono ?_
          rintro e w4_ ⟨A2, c2, rfl, hl, hb⟩
          have LA := Lib.hid (LA.out.up hb)
          have LB := Lib.hid (LB.out.up hb)
          have L1 := Lib.hid (L1.out.up hb)
          have BB := Lib.hid (BB.out.trans (hb.mono BB.out.size))
          clear hb
          have L2 := Lib.hid hl
          clear hl
          go_wp2_with fail
          with_reducible refine (K5.out _ _ _ _ _ _ L1.out L2.out (by first | exact .inr rfl | exact .inl rfl)).mono ?_
          rintro e w5_ ⟨A3, c3, rfl, hl, hb⟩
          have LA := Lib.hid (LA.out.up hb)
          have LB := Lib.hid (LB.out.up hb)
          have L1 := Lib.hid (L1.out.up hb)
          have L2 := Lib.hid (L2.out.up hb)
          have BB := Lib.hid (BB.out.trans (hb.mono BB.out.size))
          clear hb
          have L3 := Lib.hid hl
          clear hl
          go_wp2_with fail
          with_reducible refine (K6.out _ _ _ L3.out LA.out).mono ?_
          rintro e w6_ ⟨rfl, hb⟩
          have LA := Lib.hid (LA.out.up hb)
          have LB := Lib.hid (LB.out.up hb)
          have L3 := Lib.hid (L3.out.up hb)
          have BB := Lib.hid (BB.out.trans (hb.mono BB.out.size))
          clear hb
          go_wp2_with fail
          with_reducible refine (K7.out _ LA.out).mono ?_
          rintro e w7_ ⟨As, cs, rfl, hl, hb⟩
          have LA := Lib.hid (LA.out.up hb)
          have LB := Lib.hid (LB.out.up hb)
          have BB := Lib.hid (BB.out.trans (hb.mono BB.out.size))
          clear hb
          have Ls := Lib.hid hl
          clear hl
          go_wp2
          go_loopw [54] (fun vi wr => ∃ k : Nat, k ≤ s.length ∧ vi = .int .i64 k ∧ Hid (Below w7_.heap.size w7_ wr)) (fun vi _ => s.length - (intOf vi).toNat)
          case atStart => exact ⟨0, Nat.zero_le _, rfl, Lib.hid (Below.refl _ _)⟩
          case round =>
            obtain ⟨k, hk, rfl, HV⟩ := hrel
            by_cases hlt : k < s.length
            · obtain ⟨bs, os, rfl, hbs, h1, h2⟩ := (Ls.out.up HV.out).ls.at_ hlt
              have hm := HS.out _ (List.getElem_mem hlt)
              have hsl := hsm.out
              have hki : (k : Int) < s.length := by omega
              obtain ⟨x, hx⟩ : ∃ x, s[k] = x := ⟨_, rfl⟩
              rw [hx] at hm h1 h2
              obtain ⟨hm1, hm2, hm3⟩ := hm
              have hm4 : ¬ x.1 ≤ f := by omega
              have hm5 : ¬ t < x.1 := by omega
              have HM1 := Lib.hid hm1
              clear hx hm1 hm2 hm3
              have LW : Hid (∀ o, LF (wr.alloc o) A c a) := Lib.hid fun o => (LA.out.up HV.out).up ((Below.refl _ _).alloc (Nat.le_refl _) _)
              have BW : Hid (∀ o W, Below (wr.alloc o).heap.size (wr.alloc o) W → Below w7_.heap.size w7_ W) := Lib.hid fun o W h => (HV.out.alloc HV.out.size o).trans (h.mono (HV.out.alloc HV.out.size o).size)
              go_wp2_with fail
              with_reducible refine (KC.out _ x HM1.out (LW.out _)).mono ?_
              rintro e wx ⟨rfl, hb⟩
              have HV2 := Lib.hid (BW.out _ _ hb)
              clear hb h1 h2
              go_wp2
              go_roundw
              case rel => exact ⟨k + 1, by omega, by go_num, HV2⟩
              case measure => simp [intOf]; omega
            · have hki : ¬ (k : Int) < s.length := by omega
              have LA := Lib.hid (LA.out.up HV.out)
              have LB := Lib.hid (LB.out.up HV.out)
              have BB := Lib.hid (BB.out.trans (HV.out.mono BB.out.size))
              clear HV hlt
              rcases HM.out with rfl | ⟨r, rfl, hr, KP, KQ, KS⟩
              · go_wp2_with fail
                with_reducible refine (KM.out _ LA.out LB.out).mono ?_
                rintro e w8_ ⟨Am, cm, rfl, hl, hb⟩
                have LA := Lib.hid (LA.out.up hb)
                have LB := Lib.hid (LB.out.up hb)
                have BB := Lib.hid (BB.out.trans (hb.mono BB.out.size))
                clear hb
                have Lm := Lib.hid hl
                clear hl
                go_wp2_with fail
                with_reducible refine (KA.out _).mono ?_
                rintro e wz ⟨rfl, hb⟩
                have BB := Lib.hid (BB.out.trans (hb.mono BB.out.size))
                clear hb
                go_wp2
                go_ret
                exact ⟨rfl, BB.out⟩
              · have KP := Lib.hid KP
                have KQ := Lib.hid KQ
                have KS := Lib.hid KS
                generalize slcL r f t = sr at *
                go_wp2_with fail
                with_reducible refine (KM.out _ LA.out LB.out).mono ?_
                rintro e w8_ ⟨Am, cm, rfl, hl, hb⟩
                have LA := Lib.hid (LA.out.up hb)
                have LB := Lib.hid (LB.out.up hb)
                have BB := Lib.hid (BB.out.trans (hb.mono BB.out.size))
                clear hb
                have Lm := Lib.hid hl
                clear hl
                go_wp2_with fail
                with_reducible refine (K7.out _ LA.out).mono ?_
                rintro e w9_ ⟨Ap, cp, rfl, hl, hb⟩
                have LA := Lib.hid (LA.out.up hb)
                have LB := Lib.hid (LB.out.up hb)
                have Lm := Lib.hid (Lm.out.up hb)
                have BB := Lib.hid (BB.out.trans (hb.mono BB.out.size))
                clear hb
                have Lp := Lib.hid hl
                clear hl
                go_wp2_with fail
                with_reducible refine (K8.out _ LB.out).mono ?_
                rintro e w10_ ⟨Aq, cq, rfl, hl, hb⟩
                have LA := Lib.hid (LA.out.up hb)
                have LB := Lib.hid (LB.out.up hb)
                have Lm := Lib.hid (Lm.out.up hb)
                have Lp := Lib.hid (Lp.out.up hb)
                have BB := Lib.hid (BB.out.trans (hb.mono BB.out.size))
                clear hb
                have Lq := Lib.hid hl
                clear hl
                go_wp2_with fail
                with_reducible refine (KP.out _ _ _ _ _ Lp.out Lq.out).mono ?_
                rintro e w11_ ⟨Au, cu, rfl, hl, hb⟩
                have LA := Lib.hid (LA.out.up hb)
                have LB := Lib.hid (LB.out.up hb)
                have Lm := Lib.hid (Lm.out.up hb)
                have Lp := Lib.hid (Lp.out.up hb)
                have Lq := Lib.hid (Lq.out.up hb)
                have BB := Lib.hid (BB.out.trans (hb.mono BB.out.size))
                clear hb
                have Lu := Lib.hid hl
                clear hl
                go_wp2_with fail
                with_reducible refine (KQ.out _ _ _ Lm.out).mono ?_
                rintro e w12_ ⟨Av, cv, rfl, hl, hb⟩
                have Lm := Lib.hid (Lm.out.up hb)
                have Lu := Lib.hid (Lu.out.up hb)
                have BB := Lib.hid (BB.out.trans (hb.mono BB.out.size))
                clear hb
                have Lv := Lib.hid hl
                clear hl
                go_wp2_with fail
                with_reducible refine (KS.out _ _ _ _ _ Lv.out Lu.out).mono ?_
                rintro e w13_ ⟨rfl, hb⟩
                have Lm := Lib.hid (Lm.out.up hb)
                have Lu := Lib.hid (Lu.out.up hb)
                have Lv := Lib.hid (Lv.out.up hb)
                have BB := Lib.hid (BB.out.trans (hb.mono BB.out.size))
                clear hb
                go_wp2_with fail
                with_reducible refine (KA.out _).mono ?_
                rintro e wz ⟨rfl, hb⟩
                have BB := Lib.hid (BB.out.trans (hb.mono BB.out.size))
                clear hb
                go_wp2
                go_ret
                exact ⟨rfl, BB.out⟩
        | false =>
          rcases (hQ.out.resolve_left (by decide)) with ht | ht
          · have ht1 : ¬ 0 ≤ t := by omega
            have ht2 : ¬ t ≥ 0 := by omega
            go_enter Try.func7, Try.ntmps7
            go_wp2_with fail
            with_reducible refine (KG.out _ _ (by simp)).mono ?_
            rintro e w0_ ⟨rfl, rfl⟩
            go_wp2_with fail
            with_reducible refine (K1.out _ LA.out).mono ?_
            rintro e w1_ ⟨rfl, hb⟩
            have LA := Lib.hid (LA.out.up hb)
            have LB := Lib.hid (LB.out.up hb)
            have BB := Lib.hid (BB.out.trans (hb.mono BB.out.size))
            clear hb
            go_wp2_with fail
            with_reducible refine (K2.out _ LB.out).mono ?_
            rintro e w2_ ⟨rfl, hb⟩
            have LA := Lib.hid (LA.out.up hb)
            have LB := Lib.hid (LB.out.up hb)
            have BB := Lib.hid (BB.out.trans (hb.mono BB.out.size))
            clear hb
            go_wp2_with fail
            with_reducible refine (K3.out _ LA.out).mono ?_
            rintro e w3_ ⟨A1, c1, rfl, hl, hb⟩
            have LA := Lib.hid (LA.out.up hb)
            have LB := Lib.hid (LB.out.up hb)
            have BB := Lib.hid (BB.out.trans (hb.mono BB.out.size))
            clear hb
            have L1 := Lib.hid hl
            clear hl
            go_wp2_with fail
            with_reducible refine (K4.out _ LA.out).mono ?_
            rintro e w4_ ⟨A2, c2, rfl, hl, hb⟩
            have LA := Lib.hid (LA.out.up hb)
            have LB := Lib.hid (LB.out.up hb)
            have L1 := Lib.hid (L1.out.up hb)
            have BB := Lib.hid (BB.out.trans (hb.mono BB.out.size))
            clear hb
            have L2 := Lib.hid hl
            clear hl
            go_wp2_with fail
            with_reducible refine (K5.out _ _ _ _ _ _ L1.out L2.out (by first | exact .inr rfl | exact .inl rfl)).mono ?_
            rintro e w5_ ⟨A3, c3, rfl, hl, hb⟩
            have LA := Lib.hid (LA.out.up hb)
            have LB := Lib.hid (LB.out.up hb)
            have L1 := Lib.hid (L1.out.up hb)
            have L2 := Lib.hid (L2.out.up hb)
            have BB := Lib.hid (BB.out.trans (hb.mono BB.out.size))
            clear hb
            have L3 := Lib.hid hl
            clear hl
            go_wp2_with fail
            with_reducible refine (K6.out _ _ _ L3.out LA.out).mono ?_
            rintro e w6_ ⟨rfl, hb⟩
            have LA := Lib.hid (LA.out.up hb)
            have LB := Lib.hid (LB.out.up hb)
            have L3 := Lib.hid (L3.out.up hb)
            have BB := Lib.hid (BB.out.trans (hb.mono BB.out.size))
            clear hb
            go_wp2_with fail
            with_reducible refine (K7.out _ LA.out).mono ?_
            rintro e w7_ ⟨As, cs, rfl, hl, hb⟩
            have LA := Lib.hid (LA.out.up hb)
            have LB := Lib.hid (LB.out.up hb)
            have BB := Lib.hid (BB.out.trans (hb.mono BB.out.size))
            clear hb
            have Ls := Lib.hid hl
            clear hl
            go_wp2
            go_loopw [54] (fun vi wr => ∃ k : Nat, k ≤ s.length ∧ vi = .int .i64 k ∧ Hid (Below w7_.heap.size w7_ wr)) (fun vi _ => s.length - (intOf vi).toNat)
            case atStart => exact ⟨0, Nat.zero_le _, rfl, Lib.hid (Below.refl _ _)⟩
            case round =>
              obtain ⟨k, hk, rfl, HV⟩ := hrel
              by_cases hlt : k < s.length
              · obtain ⟨bs, os, rfl, hbs, h1, h2⟩ := (Ls.out.up HV.out).ls.at_ hlt
                have hm := HS.out _ (List.getElem_mem hlt)
                have hsl := hsm.out
                have hki : (k : Int) < s.length := by omega
                obtain ⟨x, hx⟩ : ∃ x, s[k] = x := ⟨_, rfl⟩
                rw [hx] at hm h1 h2
                obtain ⟨hm1, hm2, hm3⟩ := hm
                have hm4 : ¬ x.1 ≤ f := by omega
                have hm5 : ¬ t < x.1 := by omega
                have HM1 := Lib.hid hm1
                clear hx hm1 hm2 hm3
                have LW : Hid (∀ o, LF (wr.alloc o) A c a) := Lib.hid fun o => (LA.out.up HV.out).up ((Below.refl _ _).alloc (Nat.le_refl _) _)
                have BW : Hid (∀ o W, Below (wr.alloc o).heap.size (wr.alloc o) W → Below w7_.heap.size w7_ W) := Lib.hid fun o W h => (HV.out.alloc HV.out.size o).trans (h.mono (HV.out.alloc HV.out.size o).size)
                go_wp2_with fail
                with_reducible refine (KC.out _ x HM1.out (LW.out _)).mono ?_
                rintro e wx ⟨rfl, hb⟩
                have HV2 := Lib.hid (BW.out _ _ hb)
                clear hb h1 h2
                go_wp2
                go_roundw
                case rel => exact ⟨k + 1, by omega, by go_num, HV2⟩
                case measure => simp [intOf]; omega
              · have hki : ¬ (k : Int) < s.length := by omega
                have LA := Lib.hid (LA.out.up HV.out)
                have LB := Lib.hid (LB.out.up HV.out)
                have BB := Lib.hid (BB.out.trans (HV.out.mono BB.out.size))
                clear HV hlt
                rcases HM.out with rfl | ⟨r, rfl, hr, KP, KQ, KS⟩
                · go_wp2_with fail
                  with_reducible refine (KM.out _ LA.out LB.out).mono ?_
                  rintro e w8_ ⟨Am, cm, rfl, hl, hb⟩
                  have LA := Lib.hid (LA.out.up hb)
                  have LB := Lib.hid (LB.out.up hb)
                  have BB := Lib.hid (BB.out.trans (hb.mono BB.out.size))
                  clear hb
                  have Lm := Lib.hid hl
                  clear hl
                  go_wp2_with fail
                  with_reducible refine (KA.out _).mono ?_
                  rintro e wz ⟨rfl, hb⟩
                  have BB := Lib.hid (BB.out.trans (hb.mono BB.out.size))
                  clear hb
                  go_wp2
                  go_ret
                  exact ⟨rfl, BB.out⟩
                · have KP := Lib.hid KP
                  have KQ := Lib.hid KQ
                  have KS := Lib.hid KS
                  generalize slcL r f t = sr at *
                  go_wp2_with fail
                  with_reducible refine (KM.out _ LA.out LB.out).mono ?_
                  rintro e w8_ ⟨Am, cm, rfl, hl, hb⟩
                  have LA := Lib.hid (LA.out.up hb)
                  have LB := Lib.hid (LB.out.up hb)
                  have BB := Lib.hid (BB.out.trans (hb.mono BB.out.size))
                  clear hb
                  have Lm := Lib.hid hl
                  clear hl
                  go_wp2_with fail
                  with_reducible refine (K7.out _ LA.out).mono ?_
                  rintro e w9_ ⟨Ap, cp, rfl, hl, hb⟩
                  have LA := Lib.hid (LA.out.up hb)
                  have LB := Lib.hid (LB.out.up hb)
                  have Lm := Lib.hid (Lm.out.up hb)
                  have BB := Lib.hid (BB.out.trans (hb.mono BB.out.size))
                  clear hb
                  have Lp := Lib.hid hl
                  clear hl
                  go_wp2_with fail
                  with_reducible refine (K8.out _ LB.out).mono ?_
                  rintro e w10_ ⟨Aq, cq, rfl, hl, hb⟩
                  have LA := Lib.hid (LA.out.up hb)
                  have LB := Lib.hid (LB.out.up hb)
                  have Lm := Lib.hid (Lm.out.up hb)
                  have Lp := Lib.hid (Lp.out.up hb)
                  have BB := Lib.hid (BB.out.trans (hb.mono BB.out.size))
                  clear hb
                  have Lq := Lib.hid hl
                  clear hl
                  go_wp2_with fail
                  with_reducible refine (KP.out _ _ _ _ _ Lp.out Lq.out).mono ?_
                  rintro e w11_ ⟨Au, cu, rfl, hl, hb⟩
                  have LA := Lib.hid (LA.out.up hb)
                  have LB := Lib.hid (LB.out.up hb)
                  have Lm := Lib.hid (Lm.out.up hb)
                  have Lp := Lib.hid (Lp.out.up hb)
                  have Lq := Lib.hid (Lq.out.up hb)
                  have BB := Lib.hid (BB.out.trans (hb.mono BB.out.size))
                  clear hb
                  have Lu := Lib.hid hl
                  clear hl
                  go_wp2_with fail
                  with_reducible refine (KQ.out _ _ _ Lm.out).mono ?_
                  rintro e w12_ ⟨Av, cv, rfl, hl, hb⟩
                  have Lm := Lib.hid (Lm.out.up hb)
                  have Lu := Lib.hid (Lu.out.up hb)
                  have BB := Lib.hid (BB.out.trans (hb.mono BB.out.size))
                  clear hb
                  have Lv := Lib.hid hl
                  clear hl
                  go_wp2_with fail
                  with_reducible refine (KS.out _ _ _ _ _ Lv.out Lu.out).mono ?_
                  rintro e w13_ ⟨rfl, hb⟩
                  have Lm := Lib.hid (Lm.out.up hb)
                  have Lu := Lib.hid (Lu.out.up hb)
                  have Lv := Lib.hid (Lv.out.up hb)
                  have BB := Lib.hid (BB.out.trans (hb.mono BB.out.size))
                  clear hb
                  go_wp2_with fail
                  with_reducible refine (KA.out _).mono ?_
                  rintro e wz ⟨rfl, hb⟩
                  have BB := Lib.hid (BB.out.trans (hb.mono BB.out.size))
                  clear hb
                  go_wp2
                  go_ret
                  exact ⟨rfl, BB.out⟩
          · have ht1 : 0 ≤ t := by omega
            have ht2 : ¬ t ≤ 1099511627776 := by omega
            go_enter Try.func7, Try.ntmps7
            go_wp2_with fail
            with_reducible refine (KG.out _ _ (by simp)).mono ?_
            rintro e w0_ ⟨rfl, rfl⟩
            go_wp2_with fail
            with_reducible refine (K1.out _ LA.out).mono ?_
            rintro e w1_ ⟨rfl, hb⟩
            have LA := Lib.hid (LA.out.up hb)
            have LB := Lib.hid (LB.out.up hb)
            have BB := Lib.hid (BB.out.trans (hb.mono BB.out.size))
            clear hb
            go_wp2_with fail
            with_reducible refine (K2.out _ LB.out).mono ?_
            rintro e w2_ ⟨rfl, hb⟩
            have LA := Lib.hid (LA.out.up hb)
            have LB := Lib.hid (LB.out.up hb)
            have BB := Lib.hid (BB.out.trans (hb.mono BB.out.size))
            clear hb
            go_wp2_with fail
            with_reducible refine (K3.out _ LA.out).mono ?_
            rintro e w3_ ⟨A1, c1, rfl, hl, hb⟩
            have LA := Lib.hid (LA.out.up hb)
            have LB := Lib.hid (LB.out.up hb)
            have BB := Lib.hid (BB.out.trans (hb.mono BB.out.size))
            clear hb
            have L1 := Lib.hid hl
            clear hl
            go_wp2_with fail
            with_reducible refine (K4.out _ LA.out).mono ?_
            rintro e w4_ ⟨A2, c2, rfl, hl, hb⟩
            have LA := Lib.hid (LA.out.up hb)
            have LB := Lib.hid (LB.out.up hb)
            have L1 := Lib.hid (L1.out.up hb)
            have BB := Lib.hid (BB.out.trans (hb.mono BB.out.size))
            clear hb
            have L2 := Lib.hid hl
            clear hl
            go_wp2_with fail
            with_reducible refine (K5.out _ _ _ _ _ _ L1.out L2.out (by first | exact .inr rfl | exact .inl rfl)).mono ?_
            rintro e w5_ ⟨A3, c3, rfl, hl, hb⟩
            have LA := Lib.hid (LA.out.up hb)
            have LB := Lib.hid (LB.out.up hb)
            have L1 := Lib.hid (L1.out.up hb)
            have L2 := Lib.hid (L2.out.up hb)
            have BB := Lib.hid (BB.out.trans (hb.mono BB.out.size))
            clear hb
            have L3 := Lib.hid hl
            clear hl
            go_wp2_with fail
            with_reducible refine (K6.out _ _ _ L3.out LA.out).mono ?_
            rintro e w6_ ⟨rfl, hb⟩
            have LA := Lib.hid (LA.out.up hb)
            have LB := Lib.hid (LB.out.up hb)
            have L3 := Lib.hid (L3.out.up hb)
            have BB := Lib.hid (BB.out.trans (hb.mono BB.out.size))
            clear hb
            go_wp2_with fail
            with_reducible refine (K7.out _ LA.out).mono ?_
            rintro e w7_ ⟨As, cs, rfl, hl, hb⟩
            have LA := Lib.hid (LA.out.up hb)
            have LB := Lib.hid (LB.out.up hb)
            have BB := Lib.hid (BB.out.trans (hb.mono BB.out.size))
            clear hb
            have Ls := Lib.hid hl
            clear hl
            go_wp2
            go_loopw [54] (fun vi wr => ∃ k : Nat, k ≤ s.length ∧ vi = .int .i64 k ∧ Hid (Below w7_.heap.size w7_ wr)) (fun vi _ => s.length - (intOf vi).toNat)
            case atStart => exact ⟨0, Nat.zero_le _, rfl, Lib.hid (Below.refl _ _)⟩
            case round =>
              obtain ⟨k, hk, rfl, HV⟩ := hrel
              by_cases hlt : k < s.length
              · obtain ⟨bs, os, rfl, hbs, h1, h2⟩ := (Ls.out.up HV.out).ls.at_ hlt
                have hm := HS.out _ (List.getElem_mem hlt)
                have hsl := hsm.out
                have hki : (k : Int) < s.length := by omega
                obtain ⟨x, hx⟩ : ∃ x, s[k] = x := ⟨_, rfl⟩
                rw [hx] at hm h1 h2
                obtain ⟨hm1, hm2, hm3⟩ := hm
                have hm4 : ¬ x.1 ≤ f := by omega
                have hm5 : ¬ t < x.1 := by omega
                have HM1 := Lib.hid hm1
                clear hx hm1 hm2 hm3
                have LW : Hid (∀ o, LF (wr.alloc o) A c a) := Lib.hid fun o => (LA.out.up HV.out).up ((Below.refl _ _).alloc (Nat.le_refl _) _)
                have BW : Hid (∀ o W, Below (wr.alloc o).heap.size (wr.alloc o) W → Below w7_.heap.size w7_ W) := Lib.hid fun o W h => (HV.out.alloc HV.out.size o).trans (h.mono (HV.out.alloc HV.out.size o).size)
                go_wp2_with fail
                with_reducible refine (KC.out _ x HM1.out (LW.out _)).mono ?_
                rintro e wx ⟨rfl, hb⟩
                have HV2 := Lib.hid (BW.out _ _ hb)
                clear hb h1 h2
                go_wp2
                go_roundw
                case rel => exact ⟨k + 1, by omega, by go_num, HV2⟩
                case measure => simp [intOf]; omega
              · have hki : ¬ (k : Int) < s.length := by omega
                have LA := Lib.hid (LA.out.up HV.out)
                have LB := Lib.hid (LB.out.up HV.out)
                have BB := Lib.hid (BB.out.trans (HV.out.mono BB.out.size))
                clear HV hlt
                rcases HM.out with rfl | ⟨r, rfl, hr, KP, KQ, KS⟩
                · go_wp2_with fail
                  with_reducible refine (KM.out _ LA.out LB.out).mono ?_
                  rintro e w8_ ⟨Am, cm, rfl, hl, hb⟩
                  have LA := Lib.hid (LA.out.up hb)
                  have LB := Lib.hid (LB.out.up hb)
                  have BB := Lib.hid (BB.out.trans (hb.mono BB.out.size))
                  clear hb
                  have Lm := Lib.hid hl
                  clear hl
                  go_wp2_with fail
                  with_reducible refine (KA.out _).mono ?_
                  rintro e wz ⟨rfl, hb⟩
                  have BB := Lib.hid (BB.out.trans (hb.mono BB.out.size))
                  clear hb
                  go_wp2
                  go_ret
                  exact ⟨rfl, BB.out⟩
                · have KP := Lib.hid KP
                  have KQ := Lib.hid KQ
                  have KS := Lib.hid KS
                  generalize slcL r f t = sr at *
                  go_wp2_with fail
                  with_reducible refine (KM.out _ LA.out LB.out).mono ?_
                  rintro e w8_ ⟨Am, cm, rfl, hl, hb⟩
                  have LA := Lib.hid (LA.out.up hb)
                  have LB := Lib.hid (LB.out.up hb)
                  have BB := Lib.hid (BB.out.trans (hb.mono BB.out.size))
                  clear hb
                  have Lm := Lib.hid hl
                  clear hl
                  go_wp2_with fail
                  with_reducible refine (K7.out _ LA.out).mono ?_
                  rintro e w9_ ⟨Ap, cp, rfl, hl, hb⟩
                  have LA := Lib.hid (LA.out.up hb)
                  have LB := Lib.hid (LB.out.up hb)
                  have Lm := Lib.hid (Lm.out.up hb)
                  have BB := Lib.hid (BB.out.trans (hb.mono BB.out.size))
                  clear hb
                  have Lp := Lib.hid hl
                  clear hl
                  go_wp2_with fail
                  with_reducible refine (K8.out _ LB.out).mono ?_
                  rintro e w10_ ⟨Aq, cq, rfl, hl, hb⟩
                  have LA := Lib.hid (LA.out.up hb)
                  have LB := Lib.hid (LB.out.up hb)
                  have Lm := Lib.hid (Lm.out.up hb)
                  have Lp := Lib.hid (Lp.out.up hb)
                  have BB := Lib.hid (BB.out.trans (hb.mono BB.out.size))
                  clear hb
                  have Lq := Lib.hid hl
                  clear hl
                  go_wp2_with fail
                  with_reducible refine (KP.out _ _ _ _ _ Lp.out Lq.out).mono ?_
                  rintro e w11_ ⟨Au, cu, rfl, hl, hb⟩
                  have LA := Lib.hid (LA.out.up hb)
                  have LB := Lib.hid (LB.out.up hb)
                  have Lm := Lib.hid (Lm.out.up hb)
                  have Lp := Lib.hid (Lp.out.up hb)
                  have Lq := Lib.hid (Lq.out.up hb)
                  have BB := Lib.hid (BB.out.trans (hb.mono BB.out.size))
                  clear hb
                  have Lu := Lib.hid hl
                  clear hl
                  go_wp2_with fail
                  with_reducible refine (KQ.out _ _ _ Lm.out).mono ?_
                  rintro e w12_ ⟨Av, cv, rfl, hl, hb⟩
                  have Lm := Lib.hid (Lm.out.up hb)
                  have Lu := Lib.hid (Lu.out.up hb)
                  have BB := Lib.hid (BB.out.trans (hb.mono BB.out.size))
                  clear hb
                  have Lv := Lib.hid hl
                  clear hl
                  go_wp2_with fail
                  with_reducible refine (KS.out _ _ _ _ _ Lv.out Lu.out).mono ?_
                  rintro e w13_ ⟨rfl, hb⟩
                  have Lm := Lib.hid (Lm.out.up hb)
                  have Lu := Lib.hid (Lu.out.up hb)
                  have Lv := Lib.hid (Lv.out.up hb)
                  have BB := Lib.hid (BB.out.trans (hb.mono BB.out.size))
                  clear hb
                  go_wp2_with fail
                  with_reducible refine (KA.out _).mono ?_
                  rintro e wz ⟨rfl, hb⟩
                  have BB := Lib.hid (BB.out.trans (hb.mono BB.out.size))
                  clear hb
                  go_wp2
                  go_ret
                  exact ⟨rfl, BB.out⟩
      · rw [decide_eq_false hb] at K2
        clear ha hb
        go_enter Try.func7, Try.ntmps7
        go_wp2_with fail
        with_reducible refine (KG.out _ _ (by simp)).mono ?_
        rintro e w0_ ⟨rfl, rfl⟩
        go_wp2_with fail
        with_reducible refine (K1.out _ LA.out).mono ?_
        rintro e w1_ ⟨rfl, hb⟩
        have LA := Lib.hid (LA.out.up hb)
        have LB := Lib.hid (LB.out.up hb)
        have BB := Lib.hid (BB.out.trans (hb.mono BB.out.size))
        clear hb
        go_wp2_with fail
        with_reducible refine (K2.out _ LB.out).mono ?_
        rintro e w2_ ⟨rfl, hb⟩
        have LA := Lib.hid (LA.out.up hb)
        have LB := Lib.hid (LB.out.up hb)
        have BB := Lib.hid (BB.out.trans (hb.mono BB.out.size))
        clear hb
        go_wp2_with fail
        with_reducible refine (KA.out _).mono ?_
        rintro e wz ⟨rfl, hb⟩
        have BB := Lib.hid (BB.out.trans (hb.mono BB.out.size))
        clear hb
        go_wp2
        go_ret
        exact ⟨rfl, BB.out⟩
    · rw [decide_eq_false ha] at K1
      clear ha
      go_enter Try.func7, Try.ntmps7
      go_wp2_with fail
      with_reducible refine (KG.out _ _ (by simp)).mono ?_
      rintro e w0_ ⟨rfl, rfl⟩
      go_wp2_with fail
      with_reducible refine (K1.out _ LA.out).mono ?_
      rintro e w1_ ⟨rfl, hb⟩
      have LA := Lib.hid (LA.out.up hb)
      have LB := Lib.hid (LB.out.up hb)
      have BB := Lib.hid (BB.out.trans (hb.mono BB.out.size))
      clear hb
      go_wp2_with fail
      with_reducible refine (KA.out _).mono ?_
      rintro e wz ⟨rfl, hb⟩
      have BB := Lib.hid (BB.out.trans (hb.mono BB.out.size))
      clear hb
      go_wp2
      go_ret
      exact ⟨rfl, BB.out⟩
end Go.Proofs.Ytobipbedkkmlcaa.Sr
