/- Layer 9: the program's numbers, its checks, differences. -/
import Derived.Maps.AppendAt
import Derived.Test.YtmeekciclfgkkaaDcK
set_option linter.unusedVariables false
set_option linter.unusedSimpArgs false
namespace Go.Proofs.Ytmeekciclfgkkaa.Dc
open Go.RowKit
theorem below_grown {w w' : World} (h : Below w.heap.size w w') (row : Option Nat) : w.grownBy w' row := ⟨h.os, h.tape, h.output, h.size, fun k hk _ => h.block k hk⟩
set_option maxHeartbeats 2000000 in
theorem appNum_any (B : Nat) (n : Nat) (sv : Value) (l : List UInt8) (w : World) (hB : B ≤ w.heap.size) (hO : OwnBy B w sv l) (h1 : n ≤ 1152921504606846976) (hl : l.length + 10 ≤ 140737488351232) :
    Calls Try.prog 29 #[sv, .int .i64 n] w fun e w' => ∃ v', e = .returned v' ∧ OwnBy B w' v' (l ++ Lib.uvarint n) ∧ Below B w w' ∧ w.grownBy w' sv.ownBlock := by
  obtain ⟨i0, hi, hz0, hz1, hz2⟩ := info_parts infoB
  have hlen := uv_len9 (m := n) (by omega)
  have HA := Lib.hid (append_any ⟨#[]⟩ n w (by decide) (by omega))
  have hsz : (⟨#[]⟩ ++ ⟨(Lib.uvarint n).toArray⟩ : ByteArray).size = (Lib.uvarint n).length := by rw [app_size]; have : (⟨#[]⟩ : ByteArray).size = 0 := rfl; omega
  have HC := Lib.hid (str_cells (Lib.uvarint n))
  have HZ := Lib.hid hsz
  generalize (⟨#[]⟩ ++ ⟨(Lib.uvarint n).toArray⟩ : ByteArray) = t at *
  have HO := Lib.hid hO
  obtain ⟨A', c', rfl⟩ := own_form hO
  clear hO
  go_enter Try.func29, Try.ntmps29
  go_wp2_with fail
  refine HA.out.mono ?_
  rintro e w1 ⟨rfl, hb1⟩
  have O1 := Lib.hid (HO.out.step hb1)
  have B1 := Lib.hid (hb1.mono hB)
  have G1 := Lib.hid (below_grown hb1 (Value.slice A' l.length c').ownBlock)
  have hle := hb1.size
  clear hb1
  go_wp2_with (at_builtin; refine Lib.wpList_append_own_string _ rfl _ _ 47 9 rfl B 5 i0 Try.underlying47 Try.underlying9 hi hz0 hz1 hz2 (.slice A' l.length c') l.length _ rfl O1.out t rfl (by rw [HZ.out]; simp only [maxLen]; omega) (by rw [HZ.out]; omega) (by omega) ?_; intro v' w2 hown' hgrow _; have O2 := Lib.hid hown'; have B2 := Lib.hid (B1.out.grown hgrow (by omega) (fun k hk => (World.ownsRow.lt O1.out k hk).1)); have G2 := Lib.hid (G1.out.trans hgrow); clear hown' hgrow)
  go_ret
  refine ⟨_, rfl, ?_, B2.out, G2.out⟩
  have := O2.out
  rw [HC.out, byte_app, HZ.out, ← List.length_append] at this
  exact this
set_option maxHeartbeats 2000000 in
theorem appSig_any (B : Nat) (z : Int) (sv : Value) (l : List UInt8) (w : World) (hB : B ≤ w.heap.size) (hO : OwnBy B w sv l) (h0 : -1152921504606846976 ≤ z) (h1 : z ≤ 1152921504606846976) (hl : l.length + 10 ≤ 140737488351232) :
    Calls Try.prog 36 #[sv, .int .i64 z] w fun e w' => ∃ v', e = .returned v' ∧ OwnBy B w' v' (l ++ sB z) ∧ Below B w w' ∧ w.grownBy w' sv.ownBlock := by
  obtain ⟨i0, hi, hz0, hz1, hz2⟩ := info_parts infoB
  have hf := fold_le h0 h1
  have hlen := uv_len9 (m := fold z) (by omega)
  have HA := Lib.hid (signed_any ⟨#[]⟩ z w (by decide) h0 h1)
  unfold sB
  generalize fold z = n at *
  have hsz : (⟨#[]⟩ ++ ⟨(Lib.uvarint n).toArray⟩ : ByteArray).size = (Lib.uvarint n).length := by rw [app_size]; have : (⟨#[]⟩ : ByteArray).size = 0 := rfl; omega
  have HC := Lib.hid (str_cells (Lib.uvarint n))
  have HZ := Lib.hid hsz
  generalize (⟨#[]⟩ ++ ⟨(Lib.uvarint n).toArray⟩ : ByteArray) = t at *
  have HO := Lib.hid hO
  obtain ⟨A', c', rfl⟩ := own_form hO
  clear hO
  go_enter Try.func36, Try.ntmps36
  go_wp2_with fail
  refine HA.out.mono ?_
  rintro e w1 ⟨rfl, hb1⟩
  have O1 := Lib.hid (HO.out.step hb1)
  have B1 := Lib.hid (hb1.mono hB)
  have G1 := Lib.hid (below_grown hb1 (Value.slice A' l.length c').ownBlock)
  have hle := hb1.size
  clear hb1
  go_wp2_with (at_builtin; refine Lib.wpList_append_own_string _ rfl _ _ 47 9 rfl B 5 i0 Try.underlying47 Try.underlying9 hi hz0 hz1 hz2 (.slice A' l.length c') l.length _ rfl O1.out t rfl (by rw [HZ.out]; simp only [maxLen]; omega) (by rw [HZ.out]; omega) (by omega) ?_; intro v' w2 hown' hgrow _; have O2 := Lib.hid hown'; have B2 := Lib.hid (B1.out.grown hgrow (by omega) (fun k hk => (World.ownsRow.lt O1.out k hk).1)); have G2 := Lib.hid (G1.out.trans hgrow); clear hown' hgrow)
  go_ret
  refine ⟨_, rfl, ?_, B2.out, G2.out⟩
  have := O2.out
  rw [HC.out, byte_app, HZ.out, ← List.length_append] at this
  exact this

set_option maxHeartbeats 2000000 in
set_option maxRecDepth 100000 in
theorem checkTimes_any (zs : List Int) (hl : zs.length ≤ 1000000) (sv : Value) (w : World) (hI0 : Ints w.heap.size w sv zs) :
    Calls Try.prog 17 #[sv] w fun e w' => e = .returned (.int .i64 (chkT 0 zs)) ∧ w = w' := by
  have hI := hI0.at
  obtain ⟨a, cap, rfl, hcx⟩ := hI
  have HX := Lib.hid hcx
  clear hcx hI0
  go_enter Try.func17, Try.ntmps17
  go_wp2
  go_loop [3, 8] (fun vb vi => ∃ (k : Nat) (y : Int), k ≤ zs.length ∧ vi = .int .i64 k ∧ vb = .int .i64 y ∧ Hid (chkT 0 zs = chkT y (zs.drop k)))
    (fun _ vi => zs.length - (intOf vi).toNat)
  case atStart => exact ⟨0, 0, Nat.zero_le _, rfl, rfl, Lib.hid rfl⟩
  case round =>
    obtain ⟨k, y, hk, rfl, rfl, HP⟩ := hrel
    by_cases hlt : k < zs.length
    · obtain ⟨b, o, rfl, hb, hc⟩ := HX.out (List.ne_nil_of_length_pos (by omega))
      have hcell := hc k hlt
      have hi : (k : Int) < zs.length := by omega
      have HF := Lib.hid fun h => @chkT_far zs k y hlt h
      have HL := Lib.hid fun h h2 => @chkT_low zs k y hlt h h2
      have HG := Lib.hid fun h h2 => @chkT_go zs k y hlt h h2
      clear hc HX
      generalize zs[k]?.getD 0 = x at *
      by_cases h1 : x < 1
      · have HE : Hid (chkT 0 zs = 2) := by rw [HP.out]; exact HF.out (by unfold okT; omega)
        clear HF HL HG
        go_wp2
        go_ret
        rw [HE.out]
        exact ⟨rfl, rfl⟩
      · by_cases h2 : 1099511627776 < x
        · have HE : Hid (chkT 0 zs = 2) := by rw [HP.out]; exact HF.out (by unfold okT; omega)
          clear HF HL HG
          go_wp2
          go_ret
          rw [HE.out]
          exact ⟨rfl, rfl⟩
        · have hok : Hid (okT x) := by unfold okT; exact Lib.hid (by omega)
          by_cases h3 : x ≤ y
          · have HE : Hid (chkT 0 zs = 9) := by rw [HP.out]; exact HL.out hok.out (by omega)
            clear HF HL HG
            go_wp2
            go_ret
            rw [HE.out]
            exact ⟨rfl, rfl⟩
          · have HE : Hid (chkT 0 zs = chkT x (zs.drop (k + 1))) := by rw [HP.out]; exact HG.out hok.out (by omega)
            clear HF HL HG
            go_wp2
            go_round
            case rel => exact ⟨k + 1, x, by omega, by go_num, rfl, HE⟩
            case measure => simp [intOf]; omega
    · have HE : Hid (chkT 0 zs = 0) := by rw [HP.out]; exact chkT_end hlt
      go_wp2
      go_ret
      rw [HE.out]
      exact ⟨rfl, rfl⟩
set_option maxHeartbeats 2000000 in
set_option maxRecDepth 100000 in
theorem checkValues_any (zs : List Int) (hl : zs.length ≤ 1000000) (sv : Value) (w : World) (hI0 : Ints w.heap.size w sv zs) :
    Calls Try.prog 22 #[sv] w fun e w' => e = .returned (.int .i64 (chkV zs)) ∧ w = w' := by
  have hI := hI0.at
  obtain ⟨a, cap, rfl, hcx⟩ := hI
  have HX := Lib.hid hcx
  clear hcx hI0
  go_enter Try.func22, Try.ntmps22
  go_wp2
  go_loop [7] (fun vi => ∃ (k : Nat), k ≤ zs.length ∧ vi = .int .i64 k ∧ Hid (chkV zs = chkV (zs.drop k)))
    (fun vi => zs.length - (intOf vi).toNat)
  case atStart => exact ⟨0, Nat.zero_le _, rfl, Lib.hid rfl⟩
  case round =>
    obtain ⟨k, hk, rfl, HP⟩ := hrel
    by_cases hlt : k < zs.length
    · obtain ⟨b, o, rfl, hb, hc⟩ := HX.out (List.ne_nil_of_length_pos (by omega))
      have hcell := hc k hlt
      have hi : (k : Int) < zs.length := by omega
      have HF := Lib.hid fun h => @chkV_far zs k hlt h
      have HG := Lib.hid fun h => @chkV_go zs k hlt h
      clear hc HX
      generalize zs[k]?.getD 0 = x at *
      by_cases h1 : x < -576460752303423488
      · have HE : Hid (chkV zs = 2) := by rw [HP.out]; exact HF.out (by unfold okV; omega)
        clear HF HG
        go_wp2
        go_ret
        rw [HE.out]
        exact ⟨rfl, rfl⟩
      · by_cases h2 : 576460752303423488 < x
        · have HE : Hid (chkV zs = 2) := by rw [HP.out]; exact HF.out (by unfold okV; omega)
          clear HF HG
          go_wp2
          go_ret
          rw [HE.out]
          exact ⟨rfl, rfl⟩
        · have HE : Hid (chkV zs = chkV (zs.drop (k + 1))) := by rw [HP.out]; exact HG.out (by unfold okV; omega)
          clear HF HG
          go_wp2
          go_round
          case rel => exact ⟨k + 1, by omega, by go_num, HE⟩
          case measure => simp [intOf]; omega
    · have HE : Hid (chkV zs = 0) := by rw [HP.out]; exact chkV_end hlt
      go_wp2
      go_ret
      rw [HE.out]
      exact ⟨rfl, rfl⟩
end Go.Proofs.Ytmeekciclfgkkaa.Dc
