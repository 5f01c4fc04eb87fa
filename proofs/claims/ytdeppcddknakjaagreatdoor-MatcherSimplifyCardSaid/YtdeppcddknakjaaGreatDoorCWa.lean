
/- Layer 7: literal, equal, begins, apart, excludes of the reference. Layer 7: contradictory of the reference. Layer 7: needless, Has, less of the reference. -/
import Derived.Test.YtdeppcddknakjaaGreatDoorCZ
import Derived.Test.YtdeppcddknakjaaGreatDoorCTm
set_option maxRecDepth 100000
set_option linter.unusedVariables false
set_option linter.unusedSimpArgs false
namespace Go.Proofs.YtdeppcddknakjaaGreatDoor.Mx
open Go.RowKit
open Go.Proofs.YtdeppcddknakjaaGreatDoor.Rx (EmpP SameP PreP pfxS ChkP prefix_ref_any empty_ref_any emptyS)
open Go.Proofs.YtdeppcddknakjaaGreatDoor.Lab (nameB getL Lb LS)
theorem refPrefix_is (p : ByteArray) (V : World) : Calls Tryz.prog 85 #[.string p] V (PrfP p V) :=
 (prefix_ref_any p V).mono fun e w' ⟨u, all, he, hb, h⟩ => ⟨by rw [he, pre_of h.out], hb⟩
theorem refEmpty_is (p : ByteArray) (V : World) : Calls Tryz.prog 86 #[.string p] V (EmpP (emp p) V) := empty_ref_any p V
theorem bnT {a b : Int} (h : a ≠ b) : (a != b) = true := by rw [bne, bneF h]; rfl
theorem bnF {a b : Int} (h : a = b) : (a != b) = false := by rw [bne, bneT h]; rfl
theorem strT {a b : ByteArray} (h : a = b) : (a.toList == b.toList) = true := by rw [str_dec, decide_eq_true h]
theorem strF {a b : ByteArray} (h : a ≠ b) : (a.toList == b.toList) = false := by rw [str_dec, decide_eq_false h]
theorem strNT {a b : ByteArray} (h : a ≠ b) : (a.toList != b.toList) = true := by rw [bne, strF h]; rfl
theorem strNF {a b : ByteArray} (h : a = b) : (a.toList != b.toList) = false := by rw [bne, strT h]; rfl
set_option maxHeartbeats 4000000 in
theorem refLit_any (m : Mt) (h4 : m.k ≤ 4) (w : World) : Calls Tryz.prog 55 #[.agg #[.int .i64 m.k, .string m.n, .string m.v]] w (MtP (lit m) w) := by
 have KP := Lib.hid (fun w => refPrefix_is m.v w)
 unfold PrfP at KP
 by_cases h : m.k ≤ 2
 ·have HE := Lib.hid (lit_low h)
  have e1 : decide (m.k ≤ 2) = true := decide_eq_true h
  clear KP h
  go_enter Tryz.func55, Tryz.ntmps55
  go_wp2
  rw [HE.out]
  exact bodyPost_ret (v := .agg #[.int .i64 m.k, .string m.n, .string m.v]) (by simp [results, Tryz.f55, go_sem]) rfl ⟨rfl, two_alloc _ _ _ _ _⟩
 ·have e1 : decide (m.k ≤ 2) = false := decide_eq_false h
  cases h2 : (preS m.v).2 with
  | true =>
   have HE := Lib.hid (lit_yes (m := m) (by omega) h2)
   have hw : IntKind.i64.wrap (m.k - 2) = m.k - 2 := IntWalk.i64_in _ (by omega)
   rw [h2] at KP
   clear h2
   generalize (preS m.v).1 = u at KP HE
   go_enter Tryz.func55, Tryz.ntmps55
   go_wp2_with fail
   refine (KP.out _).mono ?_
   rintro e w2 ⟨rfl, b2⟩
   have B2 : Hid (Below ((w.alloc (.cells #[.int .i64 m.k, .string m.n, .string m.v] 25)).alloc (.cells #[.int .i64 0, .string ⟨#[]⟩, .string ⟨#[]⟩] 25)).heap.size ((w.alloc (.cells #[.int .i64 m.k, .string m.n, .string m.v] 25)).alloc (.cells #[.int .i64 0, .string ⟨#[]⟩, .string ⟨#[]⟩] 25)) w2) := b2
   obtain ⟨hc, hf⟩ := bcell B2.out
   go_wp2
   rw [HE.out]
   exact mt_close rfl _ _ _ rfl B2.out
  | false =>
   have HE := Lib.hid (lit_no h2)
   rw [h2] at KP
   clear h2
   generalize (preS m.v).1 = u at KP
   go_enter Tryz.func55, Tryz.ntmps55
   go_wp2_with fail
   refine (KP.out _).mono ?_
   rintro e w2 ⟨rfl, b2⟩
   have B2 : Hid (Below ((w.alloc (.cells #[.int .i64 m.k, .string m.n, .string m.v] 25)).alloc (.cells #[.int .i64 0, .string ⟨#[]⟩, .string ⟨#[]⟩] 25)).heap.size ((w.alloc (.cells #[.int .i64 m.k, .string m.n, .string m.v] 25)).alloc (.cells #[.int .i64 0, .string ⟨#[]⟩, .string ⟨#[]⟩] 25)) w2) := b2
   obtain ⟨hc, hf⟩ := bcell B2.out
   go_wp2
   rw [HE.out]
   exact mt_close rfl _ _ _ rfl B2.out
/-- What the first equal matcher yields. -/
def EqlP (r : Option ByteArray) (w : World) (e : Ending) (w' : World) : Prop := e = .returned (.tuple #[.string (r.getD ⟨#[]⟩), .bool r.isSome]) ∧ w = w'
theorem eqlR_drop {l : List Mt} {k : Nat} (hk : k < l.length) (n : ByteArray) : eqlR (l.drop k) n = if l[k].k = 1 ∧ l[k].n = n then some l[k].v else eqlR (l.drop (k + 1)) n := by
 rw [List.drop_eq_getElem_cons hk, eqlR]
set_option maxHeartbeats 4000000 in
theorem refEqual_any (l : List Mt) (hl : l.length ≤ maxLen) (n : ByteArray) (A : Option Addr) (c : Nat) (w : World) (hA : MS w w.heap.size A l) :
  Calls Tryz.prog 87 #[.slice A l.length c, .string n] w (EqlP (eqlR l n) w) := by
 unfold maxLen at hl
 have HA := Lib.hid hA
 clear hA
 go_enter Tryz.func87, Tryz.ntmps87
 go_wp2
 go_loop [6] (fun i => ∃ k : Nat, k ≤ l.length ∧ i = .int .i64 k ∧ Hid (eqlR l n = eqlR (l.drop k) n)) (fun i => l.length - (intOf i).toNat)
 case atStart => exact ⟨0, by omega, rfl, rfl⟩
 case round =>
  obtain ⟨k, hk, rfl, H⟩ := hrel
  by_cases hlt : k < l.length
  ·obtain ⟨b, off, rfl, hb, h1, h2, h3⟩ := HA.out.at_ hlt
   have HD := Lib.hid (H.out.trans (eqlR_drop hlt n))
   clear H
   generalize l[k] = x at *
   by_cases hk1 : x.k = 1
   ·have e1 := bneT hk1
    by_cases hn : x.n = n
    ·have e2 := strT hn
     have HE : Hid (eqlR l n = some x.v) := HD.out.trans (if_pos ⟨hk1, hn⟩)
     clear HD hk1 hn
     go_wp2
     go_ret2
     exact ⟨by rw [HE.out]; rfl, rfl⟩
    ·have e2 := strF hn
     have HE : Hid (eqlR l n = eqlR (l.drop (k + 1)) n) := HD.out.trans (if_neg (fun h => hn h.2))
     clear HD hk1 hn
     go_wp2
     go_round
     case rel => exact ⟨k + 1, by omega, by go_num, HE⟩
     case measure => simp [intOf]; omega
   ·have e1 := bneF hk1
    have HE : Hid (eqlR l n = eqlR (l.drop (k + 1)) n) := HD.out.trans (if_neg (fun h => hk1 h.1))
    clear HD hk1
    go_wp2
    go_round
    case rel => exact ⟨k + 1, by omega, by go_num, HE⟩
    case measure => simp [intOf]; omega
  ·have HE : Hid (eqlR l n = none) := by
    have h := H.out
    rw [List.drop_of_length_le (by omega)] at h
    exact h
   clear H
   go_wp2
   go_ret2
   exact ⟨by rw [HE.out]; rfl, rfl⟩
theorem ext_pfx (s u : ByteArray) : ((s.extract 0 u.size).toList == u.toList) = pfxS s u := by
 rw [ByteArray.toList_eq, ByteArray.toList_eq, ext_pre, Bool.eq_iff_iff, beq_iff_eq, pfx_iff, List.prefix_iff_eq_take, Array.length_toList]
 exact ⟨fun h => h.symm, fun h => h.symm⟩
set_option maxHeartbeats 2000000 in
theorem refBegins_any (a b : ByteArray) (ha : a.size ≤ maxLen) (hb : b.size ≤ maxLen) (w : World) : Calls Tryz.prog 126 #[.string a, .string b] w (SameP (begR a b) w) := by
 unfold maxLen at ha hb
 by_cases h : b.size < a.size
 ·have HE : Hid (begR a b = ((a.extract 0 b.size).toList == b.toList)) := by
   show _ = _
   unfold begR
   rw [if_pos h, ext_pfx]
  rw [HE.out]
  clear HE
  go_enter Tryz.func126, Tryz.ntmps126
  go_wp2
  go_ret
  exact ⟨rfl, rfl⟩
 ·have HE : Hid (begR a b = ((b.extract 0 a.size).toList == a.toList)) := by
   show _ = _
   unfold begR
   rw [if_neg h, ext_pfx]
  rw [HE.out]
  clear HE
  go_enter Tryz.func126, Tryz.ntmps126
  go_wp2
  go_ret
  exact ⟨rfl, rfl⟩
set_option maxHeartbeats 2000000 in
theorem refApart_any (p q : ByteArray) (hp : p.size ≤ maxLen) (hq : q.size ≤ maxLen) (w : World) : Calls Tryz.prog 88 #[.string p, .string q] w (EmpP (apart p q) w) := by
 have K1 := Lib.hid (fun w => refPrefix_is p w)
 have K2 := Lib.hid (fun w => refPrefix_is q w)
 have K3 := Lib.hid (fun w => refBegins_any (preS p).1 (preS q).1 (preS_max hp) (preS_max hq) w)
 have HE : Hid (apart p q = !begR (preS p).1 (preS q).1) := apart_beg p q
 rw [HE.out]
 clear HE
 unfold PrfP at K1 K2
 generalize begR (preS p).1 (preS q).1 = r at *
 generalize (preS p).1 = a at K1 K3
 generalize (preS p).2 = a2 at K1
 generalize (preS q).1 = b at K2 K3
 generalize (preS q).2 = b2 at K2
 go_enter Tryz.func88, Tryz.ntmps88
 go_wp2_with fail
 refine (K1.out _).mono ?_
 rintro e w1 ⟨rfl, b1⟩
 go_wp2_with fail
 refine (K2.out _).mono ?_
 rintro e w2 ⟨rfl, b2⟩
 go_wp2_with fail
 refine (K3.out _).mono ?_
 rintro e w3 ⟨rfl, rfl⟩
 go_wp2
 go_ret
 exact ⟨rfl, b1.out.trans (b2.out.mono b1.out.size)⟩
theorem exR_no3 {x m : Mt} (h : x.k ≠ 3) : exR x m = false := by unfold exR; rw [decide_eq_false (fun e => h e.1), Bool.false_and]
theorem exR_non {x m : Mt} (h : x.n ≠ m.n) : exR x m = false := by unfold exR; rw [decide_eq_false (fun e => h e.2), Bool.false_and]
theorem exR_val {x m : Mt} (h : x.k = 3) (hn : x.n = m.n) : exR x m = excl x.v m := by unfold exR; rw [decide_eq_true ⟨h, hn⟩, Bool.true_and]
set_option maxHeartbeats 4000000 in
theorem refExcl_any (a b : Mt) (ha : a.v.size ≤ 1000000) (hb : b.v.size ≤ 1000000) (w : World) :
  Calls Tryz.prog 89 #[.agg #[.int .i64 a.k, .string a.n, .string a.v], .agg #[.int .i64 b.k, .string b.n, .string b.v]] w (EmpP (exR a b) w) := by
 obtain ⟨ak, an, av⟩ := a
 obtain ⟨bk, bn, bv⟩ := b
 dsimp only at ha hb ⊢
 have BB := two_alloc w #[.int .i64 ak, .string an, .string av] #[.int .i64 bk, .string bn, .string bv] 25 25
 by_cases h3 : ak = 3
 ·have e1 := bnF h3
  have e1' := bneT h3
  by_cases hn : an = bn
  ·have e2 := strNF hn
   have e2' := strT hn
   have HX : Hid (exR ⟨ak, an, av⟩ ⟨bk, bn, bv⟩ = excl av ⟨bk, bn, bv⟩) := exR_val h3 hn
   by_cases h2 : bk = 2
   ·have e3 := bneT h2
    have e4 := bneF (show bk ≠ 4 by omega)
    have KM := Lib.hid (fun w => refM_is av bv hb w)
    have HE : Hid (exR ⟨ak, an, av⟩ ⟨bk, bn, bv⟩ = !mB av bv) := HX.out.trans (excl2 h2)
    rw [HE.out]
    clear HX HE h2 h3 hn
    generalize mB av bv = r at *
    cases r
    all_goals
     go_enter Tryz.func89, Tryz.ntmps89
     go_wp2_with fail
     refine (KM.out _).mono ?_
     rintro e w1 ⟨rfl, b1⟩
     obtain ⟨hc, hf⟩ := bcell b1.out
     have B1 : Hid (Below w.heap.size w w1) := BB.out.trans (b1.out.mono BB.out.size)
     go_wp2
     go_ret
     exact ⟨rfl, B1⟩
   ·have e3 := bneF h2
    by_cases h4 : bk = 4
    ·have e4 := bneT h4
     have KM := Lib.hid (fun w => refApart_any av bv (by unfold maxLen; omega) (by unfold maxLen; omega) w)
     have HE : Hid (exR ⟨ak, an, av⟩ ⟨bk, bn, bv⟩ = apart av bv) := HX.out.trans (excl4 h4)
     rw [HE.out]
     clear HX HE h2 h3 h4 hn
     generalize apart av bv = r at *
     go_enter Tryz.func89, Tryz.ntmps89
     go_wp2_with fail
     refine (KM.out _).mono ?_
     rintro e w1 ⟨rfl, b1⟩
     have B1 : Hid (Below w.heap.size w w1) := BB.out.trans (b1.out.mono BB.out.size)
     go_wp2
     go_ret
     exact ⟨rfl, B1⟩
    ·have e4 := bneF h4
     have HE : Hid (exR ⟨ak, an, av⟩ ⟨bk, bn, bv⟩ = false) := HX.out.trans (by unfold excl; rw [if_neg h2, if_neg h4])
     rw [HE.out]
     clear HX HE h2 h3 h4 hn
     go_enter Tryz.func89, Tryz.ntmps89
     go_wp2
     go_ret
     exact ⟨rfl, BB⟩
  ·have e2 := strNT hn
   have e2' := strF hn
   have HE : Hid (exR ⟨ak, an, av⟩ ⟨bk, bn, bv⟩ = false) := exR_non hn
   rw [HE.out]
   clear HE h3 hn
   go_enter Tryz.func89, Tryz.ntmps89
   go_wp2
   go_ret
   exact ⟨rfl, BB⟩
 ·have e1 := bnT h3
  have e1' := bneF h3
  have HE : Hid (exR ⟨ak, an, av⟩ ⟨bk, bn, bv⟩ = false) := exR_no3 h3
  rw [HE.out]
  clear HE h3
  go_enter Tryz.func89, Tryz.ntmps89
  go_wp2
  go_ret
  exact ⟨rfl, BB⟩
end Go.Proofs.YtdeppcddknakjaaGreatDoor.Mx
namespace Go.Proofs.YtdeppcddknakjaaGreatDoor.Mx
open Go.RowKit
open Go.Sort (grow)
open Go.Proofs.YtdeppcddknakjaaGreatDoor.Rx (EmpP SameP PreP pfxS ChkP)
open Go.Proofs.YtdeppcddknakjaaGreatDoor.Lab (nameB getL Lb LS)
theorem con_next {l : List Mt} {i k : Nat} {x : Mt} (hk : k < l.length) (h : ∀ y ∈ l.take k, (decide (x.k = 3 ∧ y.k = 3 ∧ x.n = y.n) && apart x.v y.v) = false) (h2 : (decide (x.k = 3 ∧ l[k].k = 3 ∧ x.n = l[k].n) && apart x.v l[k].v) = false) : ∀ y ∈ l.take (k + 1), (decide (x.k = 3 ∧ y.k = 3 ∧ x.n = y.n) && apart x.v y.v) = false := by
 intro y hy
 rw [List.take_succ_eq_append_getElem hk, List.mem_append, List.mem_singleton] at hy
 rcases hy with hy | hy
 ·exact h y hy
 ·rw [hy]; exact h2
theorem con_hit {l : List Mt} {i k : Nat} {x : Mt} (hi : i < l.length) (hk : k < i) (hx : l[i] = x) (h : (decide (x.k = 3 ∧ (l[k]'(Nat.lt_trans hk hi)).k = 3 ∧ x.n = (l[k]'(Nat.lt_trans hk hi)).n) && apart x.v (l[k]'(Nat.lt_trans hk hi)).v) = true) : conR l = true := by
 rw [Bool.and_eq_true, decide_eq_true_iff] at h
 refine conR_iff.2 ⟨i, hi, ?_⟩
 rw [hx]
 exact conAt_iff.2 (.inr (.inr ⟨_, List.mem_take_iff_getElem.2 ⟨k, by omega, rfl⟩, h.1.1, h.1.2.1, h.1.2.2, h.2⟩))
theorem con_round {l : List Mt} {i : Nat} {x : Mt} (hi : i < l.length) (hx : l[i] = x) (h : ∀ j (hj : j < l.length), j < i → conAt l j l[j] = false) (h1 : (x.k = 3 → emp x.v = false) ∧ ∀ v, eqlR l x.n = some v → fits x v = true) (h2 : ∀ y ∈ l.take i, (decide (x.k = 3 ∧ y.k = 3 ∧ x.n = y.n) && apart x.v y.v) = false) : ∀ j (hj : j < l.length), j < i + 1 → conAt l j l[j] = false := by
 intro j hj hji
 rcases Nat.lt_or_ge j i with h3 | h3
 ·exact h j hj h3
 ·obtain rfl : j = i := by omega
  rw [hx, ← Bool.not_eq_true, conAt_iff]
  rintro (⟨h4, h5⟩ | ⟨v, h4, h5⟩ | ⟨y, hy, h4, h5, h6, h7⟩)
  ·rw [h1.1 h4] at h5; cases h5
  ·rw [h1.2 v h4] at h5; cases h5
  ·have := h2 y hy
   rw [decide_eq_true ⟨h4, h5, h6⟩, h7] at this
   cases this
theorem con_none {l : List Mt} (h : ∀ j (hj : j < l.length), j < l.length → conAt l j l[j] = false) : conR l = false := by
 rw [← Bool.not_eq_true, conR_iff]
 rintro ⟨i, hi, h2⟩
 rw [h i hi hi] at h2
 cases h2
set_option maxHeartbeats 32000000 in
theorem refCon_any (l : List Mt) (hl : Sz' l) (hz : ∀ m ∈ l, m.v.size ≤ 1000000) (A : Option Addr) (c : Nat) (w : World) (hA : MS w w.heap.size A l) :
  Calls Tryz.prog 56 #[.slice A l.length c] w (EmpP (conR l) w) := by
 have hlm := hl.len
 have KE0 := Lib.hid (fun n w1 (hm : MS w1 w1.heap.size A l) => refEqual_any l hlm n A c w1 hm)
 unfold maxLen at hlm
 have HA := Lib.hid hA
 have HV0 : Hid (∀ n v, eqlR l n = some v → v.size ≤ 1000000) := fun n v h => by
  obtain ⟨x, hx, _, _, e⟩ := eqlR_some h
  rw [← e]; exact hz x hx
 have HZ : Hid (∀ m ∈ l, m.v.size ≤ maxLen) := fun m hm => by have := hz m hm; unfold maxLen; omega
 have mixed : Tryz.prog.follows .mixedOrders = true := by kernel_rfl
 clear hA hz
 go_enter Tryz.func56, Tryz.ntmps56
 go_wp2
 go_loopw [3] (fun q wr => ∃ i : Nat, i ≤ l.length ∧ q = .int .i64 i ∧ Hid (∀ j (hj : j < l.length), j < i → conAt l j l[j] = false) ∧ Hid (Below w.heap.size w wr)) (fun q _ => l.length - (intOf q).toNat)
 case atStart => exact ⟨0, by omega, rfl, fun j _ h => by omega, Below.refl _ _⟩
 case round =>
  obtain ⟨i, hi, rfl, HJ, HB⟩ := hrel
  by_cases hil : i < l.length
  ·obtain ⟨b, off, rfl, hb, h1', h2', h3'⟩ := HA.out.at_ hil
   obtain ⟨x, hx⟩ : ∃ x, l[i] = x := ⟨_, rfl⟩
   have hxm : x ∈ l := by rw [← hx]; exact List.getElem_mem hil
   rw [hx] at h1' h2' h3'
   have X1 := Lib.hid h1'
   have X2 := Lib.hid h2'
   have X3 := Lib.hid h3'
   have x1c := (HB.out.cell (p := ⟨b, off + i * 3, none⟩) hb).trans h1'
   have x2c := (HB.out.cell (p := ⟨b, off + i * 3 + 1, none⟩) hb).trans h2'
   have x3c := (HB.out.cell (p := ⟨b, off + i * 3 + 2, none⟩) hb).trans h3'
   clear h1' h2' h3'
   have KM := Lib.hid (fun w => refEmpty_is x.v w)
   have HV := Lib.hid (fun v h => HV0.out x.n v h)
   have KE := Lib.hid (fun w1 (hb : Below w.heap.size w w1) => KE0.out x.n w1 (HA.out.up hb))
   obtain ⟨bE, hbE⟩ : ∃ bE, bE = (decide (x.k = 3) && emp x.v) := ⟨_, rfl⟩
   obtain ⟨r, hr⟩ : ∃ r, eqlR l x.n = r := ⟨_, rfl⟩
   rw [hr] at KE
   obtain ⟨bP, hbP⟩ : ∃ bP, bP = (match r with | none => false | some v => !fits x v) := ⟨_, rfl⟩
   have KF := Lib.hid (fun v (h : r = some v) w => refFits_any x v (HV.out v (hr.trans h)) w)
   have HBE := Lib.hid hbE
   have HBP := Lib.hid hbP
   have HR := Lib.hid hr
   clear hbE hbP hr HV
   go_upto_region 4 with fail
   go_cut [26] (fun c wx => c = .bool bE ∧ Hid (Below w.heap.size w wx))
   case first =>
    by_cases hx3 : x.k = 3
    ·have e3 := bneT hx3
     have HE : Hid (emp x.v = bE) := by
      show _ = _
      rw [HBE.out, decide_eq_true hx3, Bool.true_and]
     clear hx3
     rw [HE.out] at KM
     go_wp2_with fail
     refine (KM.out _).mono ?_
     rintro e w3 ⟨rfl, b3⟩
     go_wp2_with fail
     go_meet
     case rel => exact ⟨rfl, HB.out.trans (b3.out.mono HB.out.size)⟩
    ·have e3 := bneF hx3
     have HE : Hid (bE = false) := by
      show _ = _
      rw [HBE.out, decide_eq_false hx3, Bool.false_and]
     clear hx3
     go_wp2_with fail
     go_meet
     case rel => exact ⟨by rw [HE.out], HB⟩
   case rest =>
    obtain ⟨rfl, HB3⟩ := hcut
    cases bE with
    | true =>
     have HE : Hid (conR l = true) := conR_iff.2 ⟨i, hil, by
      rw [hx]
      have h := HBE.out.symm
      rw [Bool.and_eq_true, decide_eq_true_iff] at h
      exact conAt_iff.2 (.inl h)⟩
     go_wp2
     go_ret
     exact ⟨okE HE.out.symm, HB3⟩
    | false =>
     have HX : Hid (x.k = 3 → emp x.v = false) := fun h => by
      have h2 := HBE.out.symm
      rw [decide_eq_true h, Bool.true_and] at h2
      exact h2
     have KE3 := Lib.hid (KE.out wc HB3.out)
     clear x1c x2c x3c KM HBE HB
     have x1c := (HB3.out.cell (p := ⟨b, off + i * 3, none⟩) hb).trans X1.out
     have x2c := (HB3.out.cell (p := ⟨b, off + i * 3 + 1, none⟩) hb).trans X2.out
     have x3c := (HB3.out.cell (p := ⟨b, off + i * 3 + 2, none⟩) hb).trans X3.out
     unfold EqlP at KE3
     obtain ⟨rs, hrs⟩ : ∃ rs, rs = r.isSome := ⟨_, rfl⟩
     obtain ⟨rd, hrd⟩ : ∃ rd, rd = r.getD ⟨#[]⟩ := ⟨_, rfl⟩
     rw [← hrs, ← hrd] at KE3
     go_upto_region 7 with (go_at_call 87; (with_reducible refine KE3.out.mono ?_); rintro e w4 ⟨rfl, rfl⟩)
     go_cut [46] (fun c wx => c = .bool bP ∧ Hid (Below w.heap.size w wx))
     case first =>
      cases r with
      | none =>
       subst hrs hrd
       have HE := Lib.hid HBP.out
       go_wp2_with fail
       go_meet
       case rel => exact ⟨by rw [HE.out], HB3⟩
      | some v =>
       subst hrs hrd
       have HE := Lib.hid HBP.out
       have KF1 := Lib.hid (KF.out _ rfl)
       go_wp2_with fail
       refine (KF1.out _).mono ?_
       rintro e w5 ⟨rfl, b5⟩
       go_wp2_with fail
       go_meet
       case rel => exact ⟨by rw [HE.out], HB3.out.trans (b5.out.mono HB3.out.size)⟩
     case rest =>
      obtain ⟨rfl, HBI⟩ := hcut
      clear x1c x2c x3c KE3 KE KF hrs hrd HB3
      cases bP with
      | true =>
       have HE : Hid (conR l = true) := conR_iff.2 ⟨i, hil, by
        rw [hx]
        refine conAt_iff.2 (.inr (.inl ?_))
        have h := HBP.out
        rw [HR.out]
        cases r with
        | none => cases h
        | some v => exact ⟨v, rfl, by simpa using h⟩⟩
       go_wp2
       go_ret
       exact ⟨okE HE.out.symm, HBI⟩
      | false =>
       have HP : Hid (∀ v, eqlR l x.n = some v → fits x v = true) := fun v h => by
        have h2 := HBP.out
        rw [HR.out] at h
        rw [h] at h2
        simpa using h2
       clear HBP HR
       go_wp2_with fail
       go_loopw [6] (fun q wr => ∃ k : Nat, k ≤ i ∧ q = .int .i64 k ∧ Hid (∀ y ∈ l.take k, (decide (x.k = 3 ∧ y.k = 3 ∧ x.n = y.n) && apart x.v y.v) = false) ∧ Hid (Below w.heap.size w wr)) (fun q _ => i - (intOf q).toNat)
       case atStart => exact ⟨0, by omega, by go_num, by intro y hy; simp at hy, HBI⟩
       case round =>
        clear HBI
        obtain ⟨k, hk, rfl, HI, HB2⟩ := hrel
        obtain ⟨ws, hws⟩ : ∃ ws : World, ws = wr := ⟨_, rfl⟩
        subst hws
        by_cases hki : k < i
        ·have hkl : k < l.length := by omega
         obtain ⟨b', off', hA', hb', y1', y2', y3'⟩ := HA.out.at_ hkl
         obtain ⟨rfl, rfl⟩ : b' = b ∧ off' = off := by injection hA' with hA'; injection hA' with h1 h2; exact ⟨h1.symm, h2.symm⟩
         clear hA'
         have y1 := cell_regrown ((HB2.out.cell (p := ⟨b', off' + k * 3, none⟩) hb').trans y1')
         have y2 := cell_regrown ((HB2.out.cell (p := ⟨b', off' + k * 3 + 1, none⟩) hb').trans y2')
         have y3 := cell_regrown ((HB2.out.cell (p := ⟨b', off' + k * 3 + 2, none⟩) hb').trans y3')
         have x1 := cell_regrown ((HB2.out.cell (p := ⟨b', off' + i * 3, none⟩) hb').trans X1.out)
         have x2 := cell_regrown ((HB2.out.cell (p := ⟨b', off' + i * 3 + 1, none⟩) hb').trans X2.out)
         have x3 := cell_regrown ((HB2.out.cell (p := ⟨b', off' + i * 3 + 2, none⟩) hb').trans X3.out)
         have HN := Lib.hid (fun h => con_next (l := l) (i := i) (x := x) hkl HI.out h)
         have HC := Lib.hid (fun h => con_hit (l := l) hil hki hx h)
         have KA := Lib.hid (fun w => refApart_any x.v l[k].v (HZ.out _ hxm) (HZ.out _ (List.getElem_mem hkl)) w)
         clear y1' y2' y3' HI hx hxm
         generalize l[k] = y at *
         by_cases hx3 : x.k = 3
         ·have ex := bneT hx3
          by_cases hy3 : y.k = 3
          ·have ey := bneT hy3
           by_cases hn : x.n = y.n
           ·have en := strT hn
            have e0 : decide (x.k = 3 ∧ y.k = 3 ∧ x.n = y.n) = true := decide_eq_true ⟨hx3, hy3, hn⟩
            cases hr : apart x.v y.v with
            | true =>
             have HE := Lib.hid (HC.out (by rw [e0, hr]; rfl))
             rw [hr] at KA
             have GA : Hid (∀ dd os, Calls Tryz.prog 88 #[.string x.v, .string y.v] (grow (redrawn ws dd) os) fun e w' => e = .returned (.bool true) ∧ Below (grow (redrawn ws dd) os).heap.size (grow (redrawn ws dd) os) w') := fun dd os => below_of (KA.out _)
             clear HN HC KA hr e0 hn hy3
             go_wp2_with fail
             refine wp_region_quiet_below (by assumption) (by kernel_rfl) ?_
             repeat (first | go_big_quiet_step (exact Calls.regrown_of (GA.out _ _)) | quiet_step (exact Calls.regrown_of (GA.out _ _)))
             refine wpQuiet_nil ?_
             intro _ hw'
             obtain ⟨⟨dq, osq⟩, hw''⟩ := hw'
             subst hw''
             have HR : Hid (Below w.heap.size w (grow (redrawn ws dq) osq)) := HB2.out.trans ((below_regrown ws dq osq).mono HB2.out.size)
             generalize grow (redrawn ws dq) osq = WZ at *
             go_wp2
             go_ret
             exact ⟨okE HE.out.symm, HR⟩
            | false =>
             have HE := Lib.hid (HN.out (by rw [e0, hr]; rfl))
             rw [hr] at KA
             have GA : Hid (∀ dd os, Calls Tryz.prog 88 #[.string x.v, .string y.v] (grow (redrawn ws dd) os) fun e w' => e = .returned (.bool false) ∧ Below (grow (redrawn ws dd) os).heap.size (grow (redrawn ws dd) os) w') := fun dd os => below_of (KA.out _)
             clear HN HC KA hr e0 hn hy3
             go_wp2_with fail
             refine wp_region_quiet_below (by assumption) (by kernel_rfl) ?_
             repeat (first | go_big_quiet_step (exact Calls.regrown_of (GA.out _ _)) | quiet_step (exact Calls.regrown_of (GA.out _ _)))
             refine wpQuiet_nil ?_
             intro _ hw'
             obtain ⟨⟨dq, osq⟩, hw''⟩ := hw'
             subst hw''
             have HR : Hid (Below w.heap.size w (grow (redrawn ws dq) osq)) := HB2.out.trans ((below_regrown ws dq osq).mono HB2.out.size)
             generalize grow (redrawn ws dq) osq = WZ at *
             go_wp2
             go_roundw
             case rel => exact ⟨k + 1, by omega, by go_num, HE, HR⟩
             case measure => simp [intOf]; omega
           ·have en := strF hn
            have HE := Lib.hid (HN.out (by rw [decide_eq_false (fun h => hn h.2.2), Bool.false_and]))
            clear HN HC KA hn hy3
            go_wp2_with fail
            refine wp_region_quiet_below (by assumption) (by kernel_rfl) ?_
            repeat (first | go_big_quiet_step (fail) | quiet_step (fail))
            refine wpQuiet_nil ?_
            intro _ hw'
            obtain ⟨⟨dq, osq⟩, hw''⟩ := hw'
            subst hw''
            have HR : Hid (Below w.heap.size w (grow (redrawn ws dq) osq)) := HB2.out.trans ((below_regrown ws dq osq).mono HB2.out.size)
            generalize grow (redrawn ws dq) osq = WZ at *
            go_wp2
            go_roundw
            case rel => exact ⟨k + 1, by omega, by go_num, HE, HR⟩
            case measure => simp [intOf]; omega
          ·have ey := bneF hy3
           have HE := Lib.hid (HN.out (by rw [decide_eq_false (fun h => hy3 h.2.1), Bool.false_and]))
           clear HN HC KA hy3
           go_wp2_with fail
           refine wp_region_quiet_below (by assumption) (by kernel_rfl) ?_
           repeat (first | go_big_quiet_step (fail) | quiet_step (fail))
           refine wpQuiet_nil ?_
           intro _ hw'
           obtain ⟨⟨dq, osq⟩, hw''⟩ := hw'
           subst hw''
           have HR : Hid (Below w.heap.size w (grow (redrawn ws dq) osq)) := HB2.out.trans ((below_regrown ws dq osq).mono HB2.out.size)
           generalize grow (redrawn ws dq) osq = WZ at *
           go_wp2
           go_roundw
           case rel => exact ⟨k + 1, by omega, by go_num, HE, HR⟩
           case measure => simp [intOf]; omega
         ·have ex := bneF hx3
          have HE := Lib.hid (HN.out (by rw [decide_eq_false (fun h => hx3 h.1), Bool.false_and]))
          clear HN HC KA hx3
          go_wp2_with fail
          refine wp_region_quiet_below (by assumption) (by kernel_rfl) ?_
          repeat (first | go_big_quiet_step (fail) | quiet_step (fail))
          refine wpQuiet_nil ?_
          intro _ hw'
          obtain ⟨⟨dq, osq⟩, hw''⟩ := hw'
          subst hw''
          have HR : Hid (Below w.heap.size w (grow (redrawn ws dq) osq)) := HB2.out.trans ((below_regrown ws dq osq).mono HB2.out.size)
          generalize grow (redrawn ws dq) osq = WZ at *
          go_wp2
          go_roundw
          case rel => exact ⟨k + 1, by omega, by go_num, HE, HR⟩
          case measure => simp [intOf]; omega
        ·have HE : Hid (∀ j (hj : j < l.length), j < i + 1 → conAt l j l[j] = false) := con_round hil hx HJ.out ⟨HX.out, HP.out⟩ (by
          have h := HI.out
          rwa [show k = i by omega] at h)
         clear HI
         go_wp2
         go_roundw
         case rel => exact ⟨i + 1, by omega, by go_num, HE, HB2⟩
         case measure => simp [intOf]; omega
  ·have HE : Hid (conR l = false) := con_none fun j hj _ => HJ.out j hj (by omega)
   clear HJ
   go_wp2
   go_ret
   exact ⟨okE HE.out.symm, HB⟩
end Go.Proofs.YtdeppcddknakjaaGreatDoor.Mx
namespace Go.Proofs.YtdeppcddknakjaaGreatDoor.Mx
open Go.RowKit
open Go.Sort (grow)
open Go.Proofs.YtdeppcddknakjaaGreatDoor.Rx (EmpP SameP PreP pfxS ChkP)
open Go.Proofs.YtdeppcddknakjaaGreatDoor.Lab (nameB getL Lb LS cmpS cmpS_lt cmpS_eq cmpS_gt ord_S)
theorem need_some {l : List Mt} {m : Mt} {v : ByteArray} (h : eqlR l m.n = some v) : needR l m = decide (m.k ≠ 1) := by unfold needR; rw [h]
theorem need_none {l : List Mt} {m : Mt} (h : eqlR l m.n = none) : needR l m = ((decide (m.k = 4) && emp m.v) || l.any fun x => exR x m) := by unfold needR; rw [h]
set_option maxHeartbeats 16000000 in
theorem refNeed_any (l : List Mt) (hl : Sz' l) (hz : ∀ m ∈ l, m.v.size ≤ 1000000) (m : Mt) (hv : m.v.size ≤ 1000000) (A : Option Addr) (c : Nat) (w : World) (hA : MS w w.heap.size A l) :
  Calls Tryz.prog 57 #[.slice A l.length c, .agg #[.int .i64 m.k, .string m.n, .string m.v]] w (EmpP (needR l m) w) := by
 have hlm := hl.len
 obtain ⟨W, hW⟩ : ∃ W, W = w.alloc (.cells #[.int .i64 m.k, .string m.n, .string m.v] 25) := ⟨_, rfl⟩
 have BW : Hid (Below w.heap.size w W) := by rw [hW]; exact (Below.refl _ _).alloc (Nat.le_refl _) _
 have hbk : W.heap[w.heap.size]? = some (.cells #[.int .i64 m.k, .string m.n, .string m.v] 25 (0, 0)) := by rw [hW]; exact heap_alloc_new w _
 have hlt0 : w.heap.size < W.heap.size := by rw [hW]; simp
 have KE := Lib.hid (refEqual_any l hlm m.n A c W (hA.up BW.out))
 unfold maxLen at hlm
 have HA := Lib.hid (hA.up BW.out)
 have HBK := Lib.hid (cell3 hbk)
 obtain ⟨c0, c1, c2⟩ := cell3 hbk
 have mixed : Tryz.prog.follows .mixedOrders = true := by kernel_rfl
 have HW := Lib.hid hW
 clear hbk hW hA
 cases hq : eqlR l m.n with
 | some v =>
  have HE := Lib.hid (need_some hq)
  rw [hq] at KE
  rw [HE.out]
  clear hq HE
  by_cases h1 : m.k = 1
  ·have e1 := bnF h1
   rw [decide_eq_false (fun h => h h1)]
   clear h1
   go_enter Tryz.func57, Tryz.ntmps57
   go_wp2_with fail
   rw [← HW.out]
   refine KE.out.mono ?_
   rintro e w1 ⟨rfl, rfl⟩
   go_wp2
   go_ret
   exact ⟨rfl, BW⟩
  ·have e1 := bnT h1
   rw [decide_eq_true h1]
   clear h1
   go_enter Tryz.func57, Tryz.ntmps57
   go_wp2_with fail
   rw [← HW.out]
   refine KE.out.mono ?_
   rintro e w1 ⟨rfl, rfl⟩
   go_wp2
   go_ret
   exact ⟨rfl, BW⟩
 | none =>
  have HE0 := Lib.hid (need_none hq)
  rw [hq] at KE
  rw [HE0.out]
  clear hq HE0
  have KM := Lib.hid (fun w => refEmpty_is m.v w)
  have HL : Hid (∀ wq : World, Below W.heap.size W wq → True) := fun _ _ => trivial
  have HN : Hid (∀ k (hk : k < l.length), (∀ j (hj : j < l.length), j < k → exR l[j] m = false) → exR l[k] m = false → ∀ j (hj : j < l.length), j < k + 1 → exR l[j] m = false) := fun k hk h h2 j hj hjk => by
   rcases Nat.lt_or_ge j k with h3 | h3
   ·exact h j hj h3
   ·obtain rfl : j = k := by omega
    exact h2
  have HT : Hid (∀ k (hk : k < l.length), exR l[k] m = true → l.any (fun x => exR x m) = true) := fun k hk h => List.any_eq_true.2 ⟨_, List.getElem_mem hk, h⟩
  have HF : Hid ((∀ j (hj : j < l.length), j < l.length → exR l[j] m = false) → l.any (fun x => exR x m) = false) := fun h => List.any_eq_false.2 fun x hx => by
   obtain ⟨j, hj, rfl⟩ := List.getElem_of_mem hx
   rw [h j hj hj]
   simp
  have KX := Lib.hid (fun k (hk : k < l.length) w => refExcl_any l[k] m (hz _ (List.getElem_mem hk)) hv w)
  obtain ⟨r, hr⟩ : ∃ r, r = l.any fun x => exR x m := ⟨_, rfl⟩
  rw [← hr] at HT HF ⊢
  clear hr HL
  by_cases h4 : m.k = 4
  ·have e4 := bneT h4
   rw [decide_eq_true h4, Bool.true_and]
   clear h4
   cases hem : emp m.v with
   | true =>
    rw [hem] at KM
    clear hem HN HT HF KX
    go_enter Tryz.func57, Tryz.ntmps57
    go_wp2_with fail
    rw [← HW.out]
    refine KE.out.mono ?_
    rintro e w1 ⟨rfl, rfl⟩
    go_wp2_with fail
    refine (KM.out _).mono ?_
    rintro e w2 ⟨rfl, b2⟩
    go_wp2
    go_ret
    exact ⟨rfl, BW.out.trans (b2.out.mono BW.out.size)⟩
   | false =>
    rw [hem] at KM
    rw [Bool.false_or]
    clear hem
    go_enter Tryz.func57, Tryz.ntmps57
    go_wp2_with fail
    rw [← HW.out]
    refine KE.out.mono ?_
    rintro e w1 ⟨rfl, rfl⟩
    clear HW
    go_wp2_with fail
    refine (KM.out _).mono ?_
    rintro e w2 ⟨rfl, b2⟩
    clear KM KE c0 c1 c2
    go_wp2_with fail
    go_loopw [7] (fun q wr => ∃ k : Nat, k ≤ l.length ∧ q = .int .i64 k ∧ Hid (∀ j (hj : j < l.length), j < k → exR l[j] m = false) ∧ Hid (Below W.heap.size W wr)) (fun q _ => l.length - (intOf q).toNat)
    case atStart => exact ⟨0, by omega, rfl, fun j _ h => by omega, b2⟩
    case round =>
     clear b2
     obtain ⟨k, hk, rfl, H, HB⟩ := hrel
     by_cases hlt : k < l.length
     ·obtain ⟨b, off, rfl, hb, h1', h2', h3'⟩ := HA.out.at_ hlt
      have q1 := cell_regrown ((HB.out.cell (p := ⟨b, off + k * 3, none⟩) hb).trans h1')
      have q2 := cell_regrown ((HB.out.cell (p := ⟨b, off + k * 3 + 1, none⟩) hb).trans h2')
      have q3 := cell_regrown ((HB.out.cell (p := ⟨b, off + k * 3 + 2, none⟩) hb).trans h3')
      have m1 := cell_regrown ((HB.out.cell (p := ⟨w.heap.size, 0, none⟩) hlt0).trans HBK.out.1)
      have m2 := cell_regrown ((HB.out.cell (p := ⟨w.heap.size, 1, none⟩) hlt0).trans HBK.out.2.1)
      have m3 := cell_regrown ((HB.out.cell (p := ⟨w.heap.size, 2, none⟩) hlt0).trans HBK.out.2.2)
      have GA : Hid (∀ dd os, Calls Tryz.prog 89 #[.agg #[.int .i64 l[k].k, .string l[k].n, .string l[k].v], .agg #[.int .i64 m.k, .string m.n, .string m.v]] (grow (redrawn wr dd) os) fun e w' => e = .returned (.bool (exR l[k] m)) ∧ Below (grow (redrawn wr dd) os).heap.size (grow (redrawn wr dd) os) w') := fun dd os => below_of (KX.out k hlt _)
      have HN2 := Lib.hid (HN.out k hlt H.out)
      have HT2 := Lib.hid (HT.out k hlt)
      clear h1' h2' h3' H HN HT
      generalize exR l[k] m = rb at *
      generalize l[k] = x at *
      go_wp2_with fail
      refine wp_region_quiet_below (by assumption) (by kernel_rfl) ?_
      repeat quiet_step (exact Calls.regrown_of (GA.out _ _))
      refine wpQuiet_nil ?_
      intro _ hw'
      obtain ⟨⟨dq, osq⟩, hw''⟩ := hw'
      subst hw''
      have HR : Hid (Below W.heap.size W (grow (redrawn wr dq) osq)) := HB.out.trans ((below_regrown wr dq osq).mono HB.out.size)
      clear q1 q2 q3 m1 m2 m3 GA
      generalize grow (redrawn wr dq) osq = WZ at *
      cases hb : rb with
      | true =>
       have HE := Lib.hid (HT2.out hb)
       clear HN2 HT2
       subst hb
       go_wp2
       go_ret
       exact ⟨okE HE.out.symm, BW.out.trans (HR.out.mono BW.out.size)⟩
      | false =>
       have HE := Lib.hid (HN2.out hb)
       clear HN2 HT2
       subst hb
       go_wp2
       go_roundw
       case rel => exact ⟨k + 1, by omega, by go_num, HE, HR⟩
       case measure => simp [intOf]; omega
     ·have HE : Hid (r = false) := HF.out fun j hj _ => H.out j hj (by omega)
      clear H
      go_wp2
      go_ret
      exact ⟨okE HE.out.symm, BW.out.trans (HB.out.mono BW.out.size)⟩
  ·have e4 := bneF h4
   rw [decide_eq_false h4, Bool.false_and, Bool.false_or]
   clear h4
   have b2 : Hid (Below W.heap.size W W) := Below.refl _ _
   go_enter Tryz.func57, Tryz.ntmps57
   go_wp2_with fail
   rw [← HW.out]
   refine KE.out.mono ?_
   rintro e w1 ⟨rfl, rfl⟩
   clear HW
   clear KM KE
   go_wp2_with fail
   go_loopw [7] (fun q wr => ∃ k : Nat, k ≤ l.length ∧ q = .int .i64 k ∧ Hid (∀ j (hj : j < l.length), j < k → exR l[j] m = false) ∧ Hid (Below W.heap.size W wr)) (fun q _ => l.length - (intOf q).toNat)
   case atStart => exact ⟨0, by omega, rfl, fun j _ h => by omega, b2⟩
   case round =>
    clear b2
    obtain ⟨k, hk, rfl, H, HB⟩ := hrel
    by_cases hlt : k < l.length
    ·obtain ⟨b, off, rfl, hb, h1', h2', h3'⟩ := HA.out.at_ hlt
     have q1 := cell_regrown ((HB.out.cell (p := ⟨b, off + k * 3, none⟩) hb).trans h1')
     have q2 := cell_regrown ((HB.out.cell (p := ⟨b, off + k * 3 + 1, none⟩) hb).trans h2')
     have q3 := cell_regrown ((HB.out.cell (p := ⟨b, off + k * 3 + 2, none⟩) hb).trans h3')
     have m1 := cell_regrown ((HB.out.cell (p := ⟨w.heap.size, 0, none⟩) hlt0).trans HBK.out.1)
     have m2 := cell_regrown ((HB.out.cell (p := ⟨w.heap.size, 1, none⟩) hlt0).trans HBK.out.2.1)
     have m3 := cell_regrown ((HB.out.cell (p := ⟨w.heap.size, 2, none⟩) hlt0).trans HBK.out.2.2)
     have GA : Hid (∀ dd os, Calls Tryz.prog 89 #[.agg #[.int .i64 l[k].k, .string l[k].n, .string l[k].v], .agg #[.int .i64 m.k, .string m.n, .string m.v]] (grow (redrawn wr dd) os) fun e w' => e = .returned (.bool (exR l[k] m)) ∧ Below (grow (redrawn wr dd) os).heap.size (grow (redrawn wr dd) os) w') := fun dd os => below_of (KX.out k hlt _)
     have HN2 := Lib.hid (HN.out k hlt H.out)
     have HT2 := Lib.hid (HT.out k hlt)
     clear h1' h2' h3' H HN HT
     generalize exR l[k] m = rb at *
     generalize l[k] = x at *
     go_wp2_with fail
     refine wp_region_quiet_below (by assumption) (by kernel_rfl) ?_
     repeat quiet_step (exact Calls.regrown_of (GA.out _ _))
     refine wpQuiet_nil ?_
     intro _ hw'
     obtain ⟨⟨dq, osq⟩, hw''⟩ := hw'
     subst hw''
     have HR : Hid (Below W.heap.size W (grow (redrawn wr dq) osq)) := HB.out.trans ((below_regrown wr dq osq).mono HB.out.size)
     clear q1 q2 q3 m1 m2 m3 GA
     generalize grow (redrawn wr dq) osq = WZ at *
     cases hb : rb with
     | true =>
      have HE := Lib.hid (HT2.out hb)
      clear HN2 HT2
      subst hb
      go_wp2
      go_ret
      exact ⟨okE HE.out.symm, BW.out.trans (HR.out.mono BW.out.size)⟩
     | false =>
      have HE := Lib.hid (HN2.out hb)
      clear HN2 HT2
      subst hb
      go_wp2
      go_roundw
      case rel => exact ⟨k + 1, by omega, by go_num, HE, HR⟩
      case measure => simp [intOf]; omega
    ·have HE : Hid (r = false) := HF.out fun j hj _ => H.out j hj (by omega)
     clear H
     go_wp2
     go_ret
     exact ⟨okE HE.out.symm, BW.out.trans (HB.out.mono BW.out.size)⟩
/-- Whether a list has a matcher. -/
def hasR (l : List Mt) (m : Mt) : Bool := decide (m ∈ l)
set_option maxHeartbeats 8000000 in
theorem refHas_any (l : List Mt) (hl : l.length ≤ maxLen) (m : Mt) (A : Option Addr) (c : Nat) (w : World) (hA : MS w w.heap.size A l) :
  Calls Tryz.prog 90 #[.slice A l.length c, .agg #[.int .i64 m.k, .string m.n, .string m.v]] w (EmpP (hasR l m) w) := by
 obtain ⟨W, hW⟩ : ∃ W, W = w.alloc (.cells #[.int .i64 m.k, .string m.n, .string m.v] 25) := ⟨_, rfl⟩
 have BW : Hid (Below w.heap.size w W) := by rw [hW]; exact (Below.refl _ _).alloc (Nat.le_refl _) _
 have hbk : W.heap[w.heap.size]? = some (.cells #[.int .i64 m.k, .string m.n, .string m.v] 25 (0, 0)) := by rw [hW]; exact heap_alloc_new w _
 unfold maxLen at hl
 have HA := Lib.hid (hA.up BW.out)
 obtain ⟨c0, c1, c2⟩ := cell3 hbk
 have HW := Lib.hid hW
 clear hbk hW hA
 go_enter Tryz.func90, Tryz.ntmps90
 go_wp2
 rw [← HW.out]
 clear HW
 go_loopw [5] (fun q wr => ∃ k : Nat, k ≤ l.length ∧ q = .int .i64 k ∧ Hid (m ∉ l.take k) ∧ Hid (∃ n, wr = W.drewN n)) (fun q _ => l.length - (intOf q).toNat)
 case atStart => exact ⟨0, by omega, rfl, (fun h => by simp at h), 0, rfl⟩
 case round =>
  obtain ⟨k, hk, rfl, H, hwr⟩ := hrel
  obtain ⟨n, rfl⟩ := hwr.out
  clear hwr
  by_cases hlt : k < l.length
  ·obtain ⟨b, off, rfl, hb, a1, a2, a3⟩ := HA.out.at_ hlt
   have heq := fun w => eql_mt l[k] m w
   by_cases he : l[k] = m
   ·simp only [decide_eq_true he] at heq
    have HE : Hid (hasR l m = true) := decide_eq_true (by rw [← he]; exact List.getElem_mem hlt)
    clear he H
    generalize l[k] = x at *
    go_wp2_with fail
    go_quiet (fail)
    go_wp2
    go_ret
    exact ⟨okE HE.out.symm, BW.out.trans ⟨rfl, rfl, rfl, Nat.le_refl _, fun _ _ => rfl⟩⟩
   ·simp only [decide_eq_false he] at heq
    have HE : Hid (m ∉ l.take (k + 1)) := by
     show ¬ _
     rw [List.take_succ_eq_append_getElem hlt, List.mem_append, List.mem_singleton]
     rintro (h | h)
     ·exact H.out h
     ·exact he h.symm
    clear he H
    generalize l[k] = x at *
    go_wp2_with fail
    go_quiet (fail)
    go_wp2
    go_roundw
    case rel => exact ⟨k + 1, by omega, by go_num, HE, ⟨n + nq, rfl⟩⟩
    case measure => simp [intOf]; omega
  ·have HE : Hid (hasR l m = false) := decide_eq_false (by
    have h := H.out
    rwa [List.take_of_length_le (by omega)] at h)
   clear H
   go_wp2
   go_ret
   exact ⟨okE HE.out.symm, BW.out.trans ⟨rfl, rfl, rfl, Nat.le_refl _, fun _ _ => rfl⟩⟩
theorem cmpS_less (a b : ByteArray) : Op.bytesLess a.toList b.toList = decide (cmpS a b < 0) := by
 cases h : Op.bytesLess a.toList b.toList with
 | true => rw [cmpS_lt h]; rfl
 | false =>
  cases h2 : (a.toList == b.toList) with
  | true => rw [cmpS_eq h h2]; rfl
  | false => rw [cmpS_gt h h2]; rfl
set_option maxHeartbeats 4000000 in
theorem refLess_any (a b : Mt) (w : World) :
  Calls Tryz.prog 91 #[.agg #[.int .i64 a.k, .string a.n, .string a.v], .agg #[.int .i64 b.k, .string b.n, .string b.v]] w (EmpP (decide (ltM a b)) w) := by
 obtain ⟨ak, an, av⟩ := a
 obtain ⟨bk, bn, bv⟩ := b
 dsimp only
 have BB := two_alloc w #[.int .i64 ak, .string an, .string av] #[.int .i64 bk, .string bn, .string bv] 25 25
 by_cases hn : an = bn
 ·have e1 := strNF hn
  have e1' := strT hn
  by_cases hk : ak = bk
  ·have e2 := bnF hk
   have e2' := bneT hk
   have HE : Hid (decide (ltM ⟨ak, an, av⟩ ⟨bk, bn, bv⟩) = Op.bytesLess av.toList bv.toList) := by
    show _ = _
    rw [cmpS_less, decide_eq_decide]
    show orI (cmpS an bn) (orI (cmpI ak bk) (cmpS av bv)) < 0 ↔ _
    rw [hn, hk, ord_S.self, ord_I.self]
    unfold orI
    rw [if_pos rfl, if_pos rfl]
   rw [HE.out]
   clear HE hk hn
   go_enter Tryz.func91, Tryz.ntmps91
   go_wp2
   go_ret
   exact ⟨rfl, BB⟩
  ·have e2 := bnT hk
   have e2' := bneF hk
   have HE : Hid (decide (ltM ⟨ak, an, av⟩ ⟨bk, bn, bv⟩) = decide (ak < bk)) := by
    show _ = _
    rw [decide_eq_decide]
    show orI (cmpS an bn) (orI (cmpI ak bk) (cmpS av bv)) < 0 ↔ _
    rw [hn, ord_S.self]
    unfold orI cmpI
    rw [if_pos rfl]
    by_cases h : ak < bk
    ·rw [if_pos h]; simp [h]
    ·rw [if_neg h, if_pos (show bk < ak by omega)]; simp [h]
   rw [HE.out]
   clear HE hk hn
   go_enter Tryz.func91, Tryz.ntmps91
   go_wp2
   go_ret
   exact ⟨rfl, BB⟩
 ·have e1 := strNT hn
  have e1' := strF hn
  have HE : Hid (decide (ltM ⟨ak, an, av⟩ ⟨bk, bn, bv⟩) = Op.bytesLess an.toList bn.toList) := by
   show _ = _
   rw [cmpS_less, decide_eq_decide]
   show orI (cmpS an bn) (orI (cmpI ak bk) (cmpS av bv)) < 0 ↔ _
   unfold orI
   rw [if_neg (fun h => hn ((ord_S.zero _ _).1 h))]
  rw [HE.out]
  clear HE
  go_enter Tryz.func91, Tryz.ntmps91
  go_wp2
  go_ret
  exact ⟨rfl, BB⟩
end Go.Proofs.YtdeppcddknakjaaGreatDoor.Mx
