/- Layer 10: the program's numbers, common beginnings, dictionaries, indices. -/
import Derived.Maps.Own
import Derived.Maps.OwnSet
import Derived.Maps.Views
import Derived.Maps.Keyed
import Derived.StringKeys
import Derived.Test.YtpinmmmbmhfmiaaDtC
import Derived.Test.YtpinmmmbmhfmiaaDuA
set_option linter.unusedVariables false
set_option linter.unusedSimpArgs false
namespace Go.Proofs.Ytpinmmmbmhfmiaa.Dt
open Go.RowKit Dc
theorem below_grown {w w' : World} (h : Below w.heap.size w w') (row : Option Nat) : w.grownBy w' row := ⟨h.os, h.tape, h.output, h.size, fun k hk _ => h.block k hk⟩
set_option maxHeartbeats 2000000 in
theorem pnum_any (B : Nat) (n : Nat) (sv : Value) (l : List UInt8) (w : World) (hB : B ≤ w.heap.size) (hO : OwnBy B w sv l) (h1 : n ≤ 1152921504606846976) (hl : l.length + 10 ≤ 140737488351232) :
    Calls Try.prog 51 #[sv, .int .i64 n] w fun e w' => ∃ v', e = .returned v' ∧ OwnBy B w' v' (l ++ uv n) ∧ Below B w w' ∧ w.grownBy w' sv.ownBlock := by
  obtain ⟨i0, hi, hz0, hz1, hz2⟩ := info_parts infoB
  have hlen := uv_len9 (m := n) (by omega)
  have HA := Lib.hid (append_any ⟨#[]⟩ n w (by decide) (by omega))
  have hsz : (⟨#[]⟩ ++ ⟨(Lib.uvarint n).toArray⟩ : ByteArray).size = (Lib.uvarint n).length := by rw [app_size]; have : (⟨#[]⟩ : ByteArray).size = 0 := rfl; omega
  have HC := Lib.hid (str_cells (Lib.uvarint n))
  have HZ := Lib.hid hsz
  generalize (⟨#[]⟩ ++ ⟨(Lib.uvarint n).toArray⟩ : ByteArray) = t at *
  have HO := Lib.hid hO
  obtain ⟨A', c', rfl⟩ := own_form hO
  clear hO
  go_enter Try.func51, Try.ntmps51
  go_wp2_with fail
  refine HA.out.mono ?_
  rintro e w1 ⟨rfl, hb1⟩
  have O1 := Lib.hid (HO.out.step hb1)
  have B1 := Lib.hid (hb1.mono hB)
  have G1 := Lib.hid (below_grown hb1 (Value.slice A' l.length c').ownBlock)
  have hle := hb1.size
  clear hb1
  go_wp2_with (at_builtin; refine Lib.wpList_append_own_string _ rfl _ _ 49 9 rfl B 5 i0 Try.underlying49 Try.underlying9 hi hz0 hz1 hz2 (.slice A' l.length c') l.length _ rfl O1.out t rfl (by rw [HZ.out]; simp only [maxLen]; omega) (by rw [HZ.out]; omega) (by omega) ?_; intro v' w2 hown' hgrow _; have O2 := Lib.hid hown'; have B2 := Lib.hid (B1.out.grown hgrow (by omega) (fun k hk => (World.ownsRow.lt O1.out k hk).1)); have G2 := Lib.hid (G1.out.trans hgrow); clear hown' hgrow)
  go_ret
  refine ⟨_, rfl, ?_, B2.out, G2.out⟩
  have := O2.out
  rw [HC.out, byte_app, HZ.out, ← List.length_append] at this
  exact this
set_option maxHeartbeats 1000000 in
set_option maxRecDepth 100000 in
theorem shared_any (a b : BA) (ha : a.size ≤ 4294967000) (hbs : b.size ≤ 4294967000) (w : World) :
    Calls Try.prog 75 #[.string a, .string b] w fun e w' => e = .returned (.int .i64 (comN a.data.toList b.data.toList)) ∧ Below w.heap.size w w' := by
  have hal : a.data.toList.length = a.size := Array.length_toList
  have hbl : b.data.toList.length = b.size := Array.length_toList
  have HC := Lib.hid fun k => comN_is a.data.toList b.data.toList k
  have HA := Lib.hid hal
  have HB2 := Lib.hid hbl
  clear hal hbl
  generalize comN a.data.toList b.data.toList = r at *
  go_enter Try.func75, Try.ntmps75
  go_wp2
  go_loopw [5] (fun vi wr => ∃ k : Nat, k ≤ a.size ∧ k ≤ b.size ∧ vi = .int .i64 k ∧ Hid (∀ j, j < k → a.data.toList[j]? = b.data.toList[j]?) ∧ Hid (Below w.heap.size w wr))
    (fun vi _ => a.size - (intOf vi).toNat)
  case atStart => exact ⟨0, Nat.zero_le _, Nat.zero_le _, rfl, Lib.hid (fun j h => by omega), Lib.hid (Below.refl _ _)⟩
  case round =>
    obtain ⟨k, hka, hkb, rfl, HP, HB⟩ := hrel
    have hend : Hid ((k < a.size → k < b.size → a.data.toList[k]? ≠ b.data.toList[k]?) → r = k) := Lib.hid fun hn => HC.out k (fun j hj => ⟨by rw [HA.out]; omega, by rw [HB2.out]; omega, HP.out j hj⟩) (fun h1 h2 => hn (by rw [HA.out] at h1; exact h1) (by rw [HB2.out] at h2; exact h2))
    by_cases hm : b.size < a.size
    · by_cases h12 : k < a.size ∧ k < b.size
      · obtain ⟨h1, h2⟩ := h12
        have e1 := byte_at h1
        have e2 := byte_at h2
        have i1 : (k : Int) < a.size := by omega
        have i2 : (k : Int) < b.size := by omega
        have g1 : decide ((k : Int) < b.size) = true := decide_eq_true (by omega)
        have g2 : decide (k < b.size) = true := decide_eq_true (by omega)
        by_cases hq : a[k] = b[k]
        · have hqq : ((a[k].toNat : Int) == (b[k].toNat : Int)) = true := by rw [hq]; simp
          have HN : Hid (∀ j, j < k + 1 → a.data.toList[j]? = b.data.toList[j]?) := Lib.hid fun j hj => by
            by_cases e : j = k
            · rw [e, e1, e2, hq]
            · exact HP.out j (by omega)
          clear HP hq e1 e2 hend HC
          go_wp2
          go_quiet (fail)
          go_wp2
          go_roundw
          case rel => exact ⟨k + 1, by omega, by omega, by go_num, HN, Lib.hid (below_drewP HB.out _)⟩
          case measure => simp [intOf]; omega
        · have hqq : ((a[k].toNat : Int) == (b[k].toNat : Int)) = false := by
            rw [beq_eq_false_iff_ne]
            exact fun e => hq (UInt8.toNat_inj.1 (by omega))
          have HN := Lib.hid (hend.out fun _ _ => by rw [e1, e2]; exact fun e => hq (Option.some.inj e))
          clear HP hq e1 e2 hend HC
          go_wp2
          go_quiet (fail)
          go_wp2
          go_ret
          rw [HN.out]
          exact ⟨rfl, below_drewP HB.out _⟩
      · have g1 : decide ((k : Int) < b.size) = false := decide_eq_false (by omega)
        have g2 : decide (k < b.size) = false := decide_eq_false (by omega)
        have HN := Lib.hid (hend.out fun h1 h2 => absurd ⟨h1, h2⟩ h12)
        clear HP hend HC
        go_wp2
        go_quiet (fail)
        go_wp2
        go_ret
        rw [HN.out]
        exact ⟨rfl, below_drewP HB.out _⟩
    · by_cases h12 : k < a.size ∧ k < b.size
      · obtain ⟨h1, h2⟩ := h12
        have e1 := byte_at h1
        have e2 := byte_at h2
        have i1 : (k : Int) < a.size := by omega
        have i2 : (k : Int) < b.size := by omega
        have g1 : decide ((k : Int) < a.size) = true := decide_eq_true (by omega)
        have g2 : decide (k < a.size) = true := decide_eq_true (by omega)
        by_cases hq : a[k] = b[k]
        · have hqq : ((a[k].toNat : Int) == (b[k].toNat : Int)) = true := by rw [hq]; simp
          have HN : Hid (∀ j, j < k + 1 → a.data.toList[j]? = b.data.toList[j]?) := Lib.hid fun j hj => by
            by_cases e : j = k
            · rw [e, e1, e2, hq]
            · exact HP.out j (by omega)
          clear HP hq e1 e2 hend HC
          go_wp2
          go_quiet (fail)
          go_wp2
          go_roundw
          case rel => exact ⟨k + 1, by omega, by omega, by go_num, HN, Lib.hid (below_drewP HB.out _)⟩
          case measure => simp [intOf]; omega
        · have hqq : ((a[k].toNat : Int) == (b[k].toNat : Int)) = false := by
            rw [beq_eq_false_iff_ne]
            exact fun e => hq (UInt8.toNat_inj.1 (by omega))
          have HN := Lib.hid (hend.out fun _ _ => by rw [e1, e2]; exact fun e => hq (Option.some.inj e))
          clear HP hq e1 e2 hend HC
          go_wp2
          go_quiet (fail)
          go_wp2
          go_ret
          rw [HN.out]
          exact ⟨rfl, below_drewP HB.out _⟩
      · have g1 : decide ((k : Int) < a.size) = false := decide_eq_false (by omega)
        have g2 : decide (k < a.size) = false := decide_eq_false (by omega)
        have HN := Lib.hid (hend.out fun h1 h2 => absurd ⟨h1, h2⟩ h12)
        clear HP hend HC
        go_wp2
        go_quiet (fail)
        go_wp2
        go_ret
        rw [HN.out]
        exact ⟨rfl, below_drewP HB.out _⟩
theorem pdicB_snoc (x : BA) : ∀ (d : List BA) (a : List UInt8), dicB a (d ++ [x]) = dicB a d ++ entB ((d.getLast?.map fun x => x.data.toList).getD a) x
  | [], a => by simp [dicB]
  | y :: d, a => by
    have := pdicB_snoc x d y.data.toList
    rw [List.cons_append, dicB, this, dicB, List.append_assoc, List.getLast?_cons]
    cases d.getLast? <;> rfl
theorem dicB_more {d : List BA} {k : Nat} (hk : k < d.length) : dicB [] (d.take (k + 1)) = dicB [] (d.take k) ++ entB (lastL (d.take k)) d[k] := by
  have et : d.take (k + 1) = d.take k ++ [d[k]] := by rw [List.take_add_one, List.getElem?_eq_getElem hk]; rfl
  rw [et, pdicB_snoc]
  rfl
theorem lastL_more {d : List BA} {k : Nat} (hk : k < d.length) : lastL (d.take (k + 1)) = d[k].data.toList := by
  have et : d.take (k + 1) = d.take k ++ [d[k]] := by rw [List.take_add_one, List.getElem?_eq_getElem hk]; rfl
  rw [et, lastL_snoc]
theorem pdicB_len : ∀ (d : List BA) (a : List UInt8), (∀ x ∈ d, x.size ≤ 1000) → (dicB a d).length ≤ 1018 * d.length
  | [], _, _ => Nat.zero_le _
  | x :: d, a, h => by
    have h1 : (entB a x).length ≤ 1018 := by
      have hx := h x (List.mem_cons_self ..)
      have hxl : x.data.toList.length = x.size := Array.length_toList
      have hc := comN_le a x.data.toList
      have q1 := uv_len9 (m := comN a x.data.toList) (by omega)
      have q2 := uv_len9 (m := x.size - comN a x.data.toList) (by omega)
      unfold entB uv
      rw [List.length_append, List.length_append, List.length_drop]
      omega
    have h2 := pdicB_len d x.data.toList fun y hy => h y (List.mem_cons_of_mem _ hy)
    rw [dicB, List.length_append, List.length_cons]
    omega
theorem cut_cells (x : BA) (k : Nat) : Lib.strCells (x.extract k x.size) = Lib.byteCells (x.data.toList.drop k) := by
  unfold Lib.strCells Lib.byteCells
  rw [drop_ext]
set_option maxHeartbeats 2000000 in
set_option maxRecDepth 100000 in
theorem appDict_any (B : Nat) (d : List BA) (hd : d.length ≤ 2000) (hs : ∀ x ∈ d, x.size ≤ 1000) (sv lv : Value) (t : List UInt8) (ht : t.length ≤ 100) (w : World) (hB : B ≤ w.heap.size) (hO : OwnBy B w sv t) (hI : StrsAt B w lv d) :
    Calls Try.prog 52 #[sv, lv] w fun e w' => ∃ v', e = .returned v' ∧ OwnBy B w' v' (t ++ dicB [] d) ∧ Below B w w' := by
  obtain ⟨i0, hi, hz0, hz1, hz2⟩ := info_parts infoB
  obtain ⟨A, c0, rfl⟩ := own_form hO
  obtain ⟨a, cap, rfl, hcx⟩ := hI
  have HX := Lib.hid hcx
  have HS := Lib.hid hs
  have H0 : Hid (OwnBy B w (.slice A t.length c0) (t ++ dicB [] (d.take 0))) := Lib.hid (by simpa [dicB] using hO)
  have e0 : Hid ((⟨(lastL (d.take 0)).toArray⟩ : BA) = ⟨#[]⟩) := Lib.hid rfl
  clear hO hcx hs
  go_enter Try.func52, Try.ntmps52
  go_wp2
  go_loopw [0, 5, 11] (fun vb vx vi wr => ∃ k : Nat, k ≤ d.length ∧ vi = .int .i64 k ∧ vx = .string ⟨(lastL (d.take k)).toArray⟩ ∧ Hid (OwnBy B wr vb (t ++ dicB [] (d.take k))) ∧ Hid (Below B w wr))
    (fun _ _ vi _ => d.length - (intOf vi).toNat)
  case atStart => exact ⟨0, Nat.zero_le _, rfl, by rw [e0.out], H0, Lib.hid (Below.refl _ _)⟩
  case round =>
    obtain ⟨k, hk, rfl, rfl, HO, HB⟩ := hrel
    clear H0 e0
    by_cases hlt : k < d.length
    · obtain ⟨b, off, rfl, hb, hc⟩ := HX.out (by omega)
      have hcell : wr.cell? ⟨b, off + k, none⟩ = some (.string (d[k]?.getD ⟨#[]⟩)) := (HB.out.cell (p := ⟨b, off + k, none⟩) hb).trans (hc k hlt)
      rw [at_get hlt] at hcell
      have hik : (k : Int) < d.length := by omega
      have HM := Lib.hid (dicB_more hlt)
      have HL := Lib.hid (lastL_more hlt)
      have hx := HS.out d[k] (List.getElem_mem hlt)
      have hpl : (lastL (d.take k)).length ≤ 1000 := lastL_len fun y hy => HS.out y (List.mem_of_mem_take hy)
      have hdl := pdicB_len (d.take k) [] fun y hy => HS.out y (List.mem_of_mem_take hy)
      rw [List.length_take] at hdl
      generalize d[k] = x at *
      generalize lastL (d.take k) = p at *
      have HN : Hid (entB p x = uv (comN p x.data.toList) ++ uv (x.size - comN p x.data.toList) ++ x.data.toList.drop (comN p x.data.toList)) := Lib.hid rfl
      have hxl : x.data.toList.length = x.size := Array.length_toList
      have hcm := comN_le p x.data.toList
      have HC := Lib.hid (shared_any ⟨p.toArray⟩ x (by show p.toArray.size ≤ _; rw [List.size_toArray]; omega) (by omega) wr)
      have hq : (⟨p.toArray⟩ : BA).data.toList = p := by simp
      rw [hq] at HC
      have hg : (comN p x.data.toList : Int) ≤ x.size := by omega
      have hsz : x.size ≤ 1000 := hx
      obtain ⟨m, hm⟩ : ∃ m, comN p x.data.toList = m := ⟨_, rfl⟩
      rw [hm] at HC HN hg hcm
      have hBw : B ≤ wr.heap.size := Nat.le_trans hB HB.out.size
      obtain ⟨u, hu⟩ : ∃ u, t ++ dicB [] (d.take k) = u := ⟨_, rfl⟩
      have hul : u.length ≤ 10000000 := by rw [← hu, List.length_append]; omega
      have HU : Hid (t ++ dicB [] (d.take (k + 1)) = u ++ uv m ++ uv (x.size - m) ++ x.data.toList.drop m) := Lib.hid (by rw [HM.out, HN.out, ← hu]; simp only [List.append_assoc])
      rw [hu] at HO
      have hmx : m ≤ x.size := by omega
      have hw1 : wrap64 ((x.size : Int) - m) = ((x.size - m : Nat) : Int) := by unfold wrap64; omega
      obtain ⟨Ab, cb, rfl⟩ := own_form HO.out
      clear hc HM HN hm hu hdl hpl hcm hq hxl
      go_wp2_with fail
      refine HC.out.mono ?_
      rintro e w1 ⟨rfl, hb1⟩
      have O1 := Lib.hid (HO.out.step hb1)
      have B1 := Lib.hid (HB.out.trans (hb1.mono hBw))
      have hB1 : B ≤ w1.heap.size := Nat.le_trans hBw hb1.size
      have P1 := Lib.hid (pnum_any B m _ _ w1 hB1 O1.out (by omega) (by omega))
      clear hb1 HC HO HB
      go_wp2_with fail
      refine P1.out.mono ?_
      rintro e w2 ⟨v2, rfl, ho2, hb2, hg2⟩
      have B2 := Lib.hid (B1.out.trans hb2)
      have hB2 : B ≤ w2.heap.size := Nat.le_trans hB1 hg2.size
      have hl2 : (u ++ uv m).length ≤ 10000010 := by
        have := uv_len9 (m := m) (by omega)
        rw [List.length_append]
        unfold uv
        omega
      obtain ⟨u2, hu2⟩ : ∃ u2, u ++ uv m = u2 := ⟨_, rfl⟩
      rw [hu2] at ho2 hl2 HU
      have P2 := Lib.hid (pnum_any B (x.size - m) _ _ w2 hB2 ho2 (by omega) (by omega))
      rw [show ((x.size - m : Nat) : Int) = (x.size : Int) - m by omega] at P2
      obtain ⟨A2, c2, rfl⟩ := own_form ho2
      clear hu2 hw1
      clear P1 ho2 hb2 hg2 O1 B1
      go_wp2_with fail
      refine P2.out.mono ?_
      rintro e w3 ⟨v3, rfl, ho3, hb3, hg3⟩
      have hl3 : (u2 ++ uv (x.size - m)).length ≤ 10000020 := by
        have := uv_len9 (m := x.size - m) (by omega)
        rw [List.length_append]
        unfold uv at *
        omega
      obtain ⟨u3, hu3⟩ : ∃ u3, u2 ++ uv (x.size - m) = u3 := ⟨_, rfl⟩
      rw [hu3] at ho3 hl3 HU
      have O3 := Lib.hid ho3
      have B3 := Lib.hid (B2.out.trans hb3)
      have hB3 : B ≤ w3.heap.size := Nat.le_trans hB2 hg3.size
      have HE := Lib.hid (cut_cells x m)
      have hez : (x.extract m x.size).size = x.size - m := ext_len x m
      obtain ⟨A3, c3, rfl⟩ := own_form ho3
      clear P2 ho3 hb3 hg3 hu3 hl2 B2
      obtain ⟨y, hy⟩ : ∃ y, x.extract m x.size = y := ⟨_, rfl⟩
      rw [hy] at HE hez
      have HZ := Lib.hid hez
      go_wp2_with (at_builtin; refine Lib.wpList_append_own_string _ rfl _ _ 49 9 rfl B 5 i0 Try.underlying49 Try.underlying9 hi hz0 hz1 hz2 (.slice A3 u3.length c3) u3.length _ rfl O3.out y (by rw [← hy]; rfl) (by rw [HZ.out]; simp only [maxLen]; omega) (by rw [HZ.out]; omega) (by omega) ?_; intro v' w4 hown' hgrow _; have O4 := Lib.hid hown'; have B4 := Lib.hid (B3.out.grown hgrow (by omega) (fun k hk => (World.ownsRow.lt O3.out k hk).1)); clear hown' hgrow)
      have hel : (x.data.toList.drop m).length = x.size - m := by rw [List.length_drop, Array.length_toList]; rfl
      have O5 : Hid (OwnBy B w4 v' (t ++ dicB [] (d.take (k + 1)))) := Lib.hid (by
        have := O4.out
        rw [HE.out, byte_app, HZ.out, ← hel, ← List.length_append] at this
        rw [HU.out]
        exact this)
      have hxx : (⟨x.data.toList.toArray⟩ : BA) = x := mk_data x
      have HXX := Lib.hid hxx
      clear O4 O3 B3 HE HZ hez hy hxx hel
      go_roundw
      case rel => exact ⟨k + 1, by omega, by go_num, by rw [HL.out, HXX.out], O5, B4⟩
      case measure => simp [intOf]; omega
    · have hk' : k = d.length := by omega
      have HF : Hid (OwnBy B wr _ (t ++ dicB [] d)) := Lib.hid (by have := HO.out; rw [List.take_of_length_le (by omega)] at this; exact this)
      obtain ⟨Ab, cb, rfl⟩ := own_form HO.out
      clear HO hk'
      go_wp2
      go_ret
      exact ⟨_, rfl, HF.out, HB.out⟩
end Go.Proofs.Ytpinmmmbmhfmiaa.Dt
