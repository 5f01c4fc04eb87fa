/- Layer 10: the program's reader: strings, dictionaries. -/
import Derived.Test.YtpinmmmbmhfmiaaDuJ
set_option linter.unusedVariables false
set_option linter.unusedSimpArgs false
namespace Go.Proofs.Ytpinmmmbmhfmiaa.Dt
open Go.RowKit Dc
theorem cat_mk (a b : List UInt8) : (⟨a.toArray⟩ : BA) ++ ⟨b.toArray⟩ = ⟨(a ++ b).toArray⟩ := by
  apply of_list
  rw [app_list]
theorem rest_drew {W : World} {r : Nat} {s : List UInt8} (h : Rest W r s) : Rest W.drew r s := h
theorem grown_drew (w : World) (row : Option Nat) : w.grownBy w.drew row := ⟨rfl, rfl, rfl, Nat.le_refl _, fun _ _ _ => rfl⟩
set_option maxHeartbeats 2000000 in
theorem strAfter_any (a : List UInt8) (ha : a.length ≤ 1000) (s : List UInt8) (hl : s.length ≤ 4294967000) (r : Nat) (w : World) (hR : Rest w r s) :
    Calls Try.prog 80 #[.pointer (some ⟨r, 0, none⟩), .string ⟨a.toArray⟩] w fun e w' => e = .returned (.string (wrdL a s).1) ∧ Rest w' r (wrdL a s).2 ∧ w.grownBy w' (some r) := by
  have h1 := wrd_shared a s
  have HU := Lib.hid (upTo_any (a.length : Int) s hl r w hR)
  have hl2 := upT_len (a.length : Int) s
  have HW : Hid ((wrdL a s).1 = ⟨(a.take (upT a.length s).1).toArray⟩ ++ ⟨((upT (1000 - ((upT a.length s).1 : Int)) (upT a.length s).2).2.take (upT (1000 - ((upT a.length s).1 : Int)) (upT a.length s).2).1).toArray⟩) := Lib.hid (by rw [cat_mk]; rfl)
  have HW2 : Hid ((wrdL a s).2 = (upT (1000 - ((upT a.length s).1 : Int)) (upT a.length s).2).2.drop (upT (1000 - ((upT a.length s).1 : Int)) (upT a.length s).2).1) := Lib.hid rfl
  obtain ⟨p, hp⟩ : ∃ p, upT a.length s = p := ⟨_, rfl⟩
  rw [hp] at HU hl2 HW HW2 h1
  have h2 := upT_le (most := 1000 - (p.1 : Int)) (by omega) p.2
  obtain ⟨q, hq⟩ : ∃ q, upT (1000 - (p.1 : Int)) p.2 = q := ⟨_, rfl⟩
  have HQ := Lib.hid hq
  rw [hq] at HW HW2 h2
  rw [HW2.out]
  have hts := mk_size a
  have HT := Lib.hid (cut_take a p.1)
  have hexz : ((⟨a.toArray⟩ : BA).extract 0 p.1).size = p.1 := by rw [HT.out, mk_size, List.length_take]; omega
  rw [← HT.out] at HW
  have hpi : (p.1 : Int) ≤ (⟨a.toArray⟩ : BA).size := by rw [hts]; omega
  have hpn : p.1 ≤ (⟨a.toArray⟩ : BA).size := by rw [hts]; omega
  rw [← hts] at HU
  have hbig : ¬ 140737488355328 < p.1 + q.1 := by omega
  have hq1 : q.1 ≤ 1000 := by omega
  have hp1 : p.1 ≤ 1000 := by omega
  obtain ⟨X, hX⟩ : ∃ X, (wrdL a s).1 = X := ⟨_, rfl⟩
  rw [hX] at HW ⊢
  clear hp hq hR HT hts HW2 hX h1 h2
  generalize (⟨a.toArray⟩ : BA) = t at *
  obtain ⟨z, hz⟩ : ∃ z, t.extract 0 p.1 = z := ⟨_, rfl⟩
  rw [hz] at HW hexz
  have HB := Lib.hid fun w hR => bytes_any q.1 (by omega) q.2 r w hR
  obtain ⟨y, hy⟩ : ∃ y, (⟨(q.2.take q.1).toArray⟩ : BA) = y := ⟨_, rfl⟩
  have hys : y.size ≤ 1000 := by rw [← hy, mk_size, List.length_take]; omega
  rw [hy] at HB HW
  have hok : ¬ 9223372036854775807 < z.size + y.size := by omega
  have hok2 : ¬ 9223372036854775807 < p.1 + y.size := by omega
  clear hy
  go_enter Try.func80, Try.ntmps80
  go_wp2_with fail
  refine HU.out.mono ?_
  rintro e w1 ⟨rfl, hr1, hg1⟩
  have H2 := Lib.hid (upTo_any (1000 - (p.1 : Int)) p.2 (by omega) r w1 hr1)
  rw [HQ.out] at H2
  have G1 := Lib.hid hg1
  clear hr1 hg1 HU
  go_wp2_with fail
  refine H2.out.mono ?_
  rintro e w2 ⟨rfl, hr2, hg2⟩
  have H3 := Lib.hid (HB.out w2.drew (rest_drew hr2))
  have G2 := Lib.hid ((G1.out.trans hg2).trans (grown_drew w2 _))
  clear hr2 hg2 H2 HB
  go_wp2
  go_region_law (go_simp; go_at_call 95; (with_reducible refine H3.out.mono ?_); rintro e w3 ⟨rfl, hr3, hg3⟩; have R3 := Lib.hid hr3; have G3 := Lib.hid (G2.out.trans hg3))
  all_goals
    go_simp
    go_wp2
    go_ret
    exact ⟨by rw [HW.out]; rfl, R3.out, G3.out⟩
theorem lastL_mk (d : List BA) (x : BA) : (⟨(lastL (d ++ [x])).toArray⟩ : BA) = x := by rw [lastL_snoc, mk_data]
theorem dicS_next1 (s : List UInt8) (k : Nat) : (dicS s (k + 1)).1 = (dicS s k).1 ++ [(wrdL (lastL (dicS s k).1) (dicS s k).2).1] := by rw [dicS]
theorem dicS_next2 (s : List UInt8) (k : Nat) : (dicS s (k + 1)).2 = (wrdL (lastL (dicS s k).1) (dicS s k).2).2 := by rw [dicS]
theorem dicS_last (s : List UInt8) (k : Nat) : (⟨(lastL (dicS s (k + 1)).1).toArray⟩ : BA) = (wrdL (lastL (dicS s k).1) (dicS s k).2).1 := by rw [dicS_next1, lastL_mk]
theorem grown_past {w a b : World} {r : Nat} {row : Option Nat} (h : w.grownBy a (some r)) (hg : a.grownBy b row) (hr : ∀ g, row = some g → w.heap.size ≤ g) : w.grownBy b (some r) := by
  refine ⟨hg.os.trans h.os, hg.tape.trans h.tape, hg.output.trans h.output, Nat.le_trans h.size hg.size, fun k hk hne => ?_⟩
  rw [hg.block k (Nat.lt_of_lt_of_le hk h.size) (fun e => by have := hr k e.symm; omega)]
  exact h.block k hk hne
theorem own_other {a b : World} {B r : Nat} {v : Value} {l : List BA} (h : OwnS B a v l) (hg : a.grownBy b (some r)) (hr : r < B) : OwnS B b v l := by
  refine World.ownsRow.kept h hg ?_
  rcases h.2 with ⟨rfl, _⟩ | ⟨g, cap, cur, rfl, hb, _⟩
  · exact .inl rfl
  · exact .inr (by intro e; simp [Value.ownBlock] at e; omega)
set_option maxHeartbeats 2000000 in
set_option maxRecDepth 100000 in
theorem rdict_any (n : Nat) (hn : n ≤ 2000) (s : List UInt8) (hl : s.length ≤ 4294967000) (r : Nat) (w : World) (hR : Rest w r s) :
    Calls Try.prog 58 #[.pointer (some ⟨r, 0, none⟩), .int .i64 n] w fun e w' => (∃ v, e = .returned v ∧ OwnS w.heap.size w' v (dicL n s).1) ∧ Rest w' r (dicL n s).2 ∧ w.grownBy w' (some r) := by
  obtain ⟨i0, hi, hz0, hz1, hz2⟩ := info_parts infoS
  have hr : r < w.heap.size := hR.lt
  have HU := Lib.hid (upTo_any (n : Int) s hl r w hR)
  have hl2 := upT_len (n : Int) s
  have h1 := upT_le (most := (n : Int)) (by omega) s
  have HD : Hid (dicL n s = dicS (upT n s).2 (upT n s).1) := Lib.hid rfl
  obtain ⟨p, hp⟩ : ∃ p, upT n s = p := ⟨_, rfl⟩
  rw [hp] at HU hl2 h1 HD
  have hpl : p.1 ≤ 2000 := by omega
  rw [HD.out]
  have HL := Lib.hid (dicS_len p.2)
  clear hR hp h1 HD
  go_enter Try.func58, Try.ntmps58
  go_wp2_with fail
  refine HU.out.mono ?_
  rintro e w1 ⟨rfl, hr1, hg1⟩
  have R1 : Hid (Rest w1 r (dicS p.2 0).2) := Lib.hid hr1
  have G1 := Lib.hid hg1
  have O1 : Hid (OwnS w.heap.size w1 (.slice none 0 0) (dicS p.2 0).1) := Lib.hid (OwnS.nil_ _ _)
  have e0 : Hid ((⟨(lastL (dicS p.2 0).1).toArray⟩ : BA) = ⟨#[]⟩) := Lib.hid rfl
  clear hr1 hg1 HU
  go_wp2
  go_loopw [5, 6, 10] (fun vd vx vi wr => ∃ k : Nat, k ≤ p.1 ∧ vi = .int .i64 k ∧ vx = .string ⟨(lastL (dicS p.2 k).1).toArray⟩ ∧ Hid (OwnS w.heap.size wr vd (dicS p.2 k).1) ∧ Hid (Rest wr r (dicS p.2 k).2) ∧ Hid (w.grownBy wr (some r)))
    (fun _ _ vi _ => p.1 - (intOf vi).toNat)
  case atStart => exact ⟨0, Nat.zero_le _, rfl, by rw [e0.out], O1, R1, G1⟩
  case round =>
    obtain ⟨k, hk, rfl, rfl, HO, HR, HG⟩ := hrel
    clear O1 R1 G1 e0
    by_cases hlt : k < p.1
    · have hik : (k : Int) < p.1 := by omega
      obtain ⟨hk1, hk2, hk3⟩ := HL.out k
      have HA := Lib.hid (strAfter_any (lastL (dicS p.2 k).1) (lastL_len hk2) (dicS p.2 k).2 (Nat.le_trans hk3 (Nat.le_trans hl2 hl)) r wr HR.out)
      have hw2 : wrap64 ((k : Int) + 1) = ((k + 1 : Nat) : Int) := by unfold wrap64; omega
      have HLM := Lib.hid (dicS_last p.2 k)
      have HS1 := Lib.hid (dicS_next1 p.2 k)
      have HS2 := Lib.hid (dicS_next2 p.2 k)
      have hdk : (dicS p.2 k).1.length ≤ 2000 := Nat.le_trans (Nat.le_of_eq hk1) (Nat.le_trans hk hpl)
      obtain ⟨W, hW⟩ : ∃ W, wrdL (lastL (dicS p.2 k).1) (dicS p.2 k).2 = W := ⟨_, rfl⟩
      rw [hW] at HA HLM HS1 HS2
      obtain ⟨d, hd⟩ : ∃ d, (dicS p.2 k).1 = d := ⟨_, rfl⟩
      rw [hd] at HA HO HS1 hdk
      obtain ⟨x, hx⟩ : ∃ x, W.1 = x := ⟨_, rfl⟩
      rw [hx] at HA HLM HS1
      obtain ⟨q, hq⟩ : ∃ q : BA, ⟨(lastL d).toArray⟩ = q := ⟨_, rfl⟩
      rw [hq] at HA
      rw [hd, hq]
      obtain ⟨A, c, rfl⟩ := own_form HO.out
      clear hW hx hd hq hk1 hk2 hk3 HR HL
      go_wp2_with fail
      refine HA.out.mono ?_
      rintro e w2 ⟨rfl, hr2, hg2⟩
      have O2 := Lib.hid (own_other HO.out hg2 hr)
      have G2 := Lib.hid (HG.out.trans hg2)
      have R2 := Lib.hid hr2
      clear hr2 hg2 HA HO HG
      go_wp2_with (at_builtin; refine wpList_append_own _ rfl _ _ 22 rfl w.heap.size 9 i0 (.string ⟨#[]⟩) 1 16 Try.underlying22 hi hz0 hz1 hz2 rfl (by decide) _ d.length _ rfl (World.ownsRow.alloc O2.out _) ⟨w2.heap.size, 0, none⟩ 1 1 [.string x] rfl rfl (cell_one_new _ _ _) (by simp [Value.oneCell']) (by unfold maxLen; omega) (by omega) (by have := G2.out.size; simp; omega) ?_; intro v4 w4 hown4 hgrow4 _; have O4 := Lib.hid hown4; have G4 := Lib.hid (grown_past (G2.out.trans (World.grownBy_alloc w2 _ _)) hgrow4 (fun g e => (World.ownsRow.lt O2.out g e).1)); have R4 := Lib.hid (Rest.kept (Boxed.alloc R2.out _) hgrow4 (fun e => by have := (World.ownsRow.lt O2.out r e.symm).1; omega)); clear hown4 hgrow4)
      go_roundw
      case rel =>
        refine ⟨k + 1, by omega, by go_num, by rw [HLM.out], Lib.hid ?_, Lib.hid ?_, G4⟩
        · have := O4.out
          rw [HS1.out]
          unfold OwnS
          rw [sc_snoc, List.length_append]
          exact this
        · rw [HS2.out]
          exact R4.out
      case measure => simp [intOf]; omega
    · obtain rfl : k = p.1 := by omega
      obtain ⟨A, c, rfl⟩ := own_form HO.out
      go_wp2
      go_ret
      exact ⟨⟨_, rfl, HO.out⟩, HR.out, HG.out⟩
end Go.Proofs.Ytpinmmmbmhfmiaa.Dt
