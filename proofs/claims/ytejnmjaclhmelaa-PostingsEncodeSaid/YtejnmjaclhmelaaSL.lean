/- Layer 8: the program's Encode. -/
import Derived.Test.YtejnmjaclhmelaaSG
import Derived.Test.YtejnmjaclhmelaaPH
import Derived.Lib.AppendStr
set_option linter.unusedVariables false
set_option linter.unusedSimpArgs false
namespace Go.Proofs.Ytejnmjaclhmelaa.Po
open Go.RowKit
theorem infoB : (Try.prog.info? 5).map (fun i => (i.zero, i.size, i.bytes)) = some (some (.int .u8 0), 1, 1) := by kernel_rfl
/-- A slice of bytes of the call's own. -/
def OwnBy (B : Nat) (W : World) (v : Value) (l : List UInt8) : Prop := W.ownsRow B 5 1 v l.length (Lib.byteCells l)
theorem str_cells (l : List UInt8) : Lib.strCells (⟨#[]⟩ ++ ⟨l.toArray⟩ : ByteArray) = Lib.byteCells l := by
  unfold Lib.strCells Lib.byteCells
  rw [app_list]
  rfl
theorem byte_app (a b : List UInt8) : Lib.byteCells a ++ Lib.byteCells b = Lib.byteCells (a ++ b) := by unfold Lib.byteCells; rw [List.map_append]
theorem OwnBy.nil_ (B : Nat) (w : World) : OwnBy B w (.slice none 0 0) [] := World.ownsRow_nil _ _ _ _
theorem OwnBy.step {B : Nat} {w w' : World} {v : Value} {l : List UInt8} (h : OwnBy B w v l) (hb : Below w.heap.size w w') : OwnBy B w' v l := own_belowP h hb
set_option maxHeartbeats 2000000 in
theorem appNum_any (B : Nat) (z : Int) (sv : Value) (l : List UInt8) (w : World) (hB : B ≤ w.heap.size) (hO : OwnBy B w sv l) (h0 : 0 ≤ z) (h1 : z ≤ 1152921504606846976) (hl : l.length + 10 ≤ 140737488351232) :
    Calls Try.prog 46 #[sv, .int .i64 z] w fun e w' => ∃ v', e = .returned v' ∧ OwnBy B w' v' (l ++ Lib.uvarint z.toNat) ∧ Below B w w' := by
  obtain ⟨i0, hi, hz0, hz1, hz2⟩ := info_parts infoB
  obtain ⟨n, rfl⟩ : ∃ n : Nat, z = n := ⟨z.toNat, by omega⟩
  rw [Int.toNat_natCast]
  have hlen := uv_len9 (m := n) (by omega)
  have HA := Lib.hid (append_any ⟨#[]⟩ n w (by decide) (by omega))
  have hsz : (⟨#[]⟩ ++ ⟨(Lib.uvarint n).toArray⟩ : ByteArray).size = (Lib.uvarint n).length := by rw [app_size]; have : (⟨#[]⟩ : ByteArray).size = 0 := rfl; omega
  have HC := Lib.hid (str_cells (Lib.uvarint n))
  have HZ := Lib.hid hsz
  generalize (⟨#[]⟩ ++ ⟨(Lib.uvarint n).toArray⟩ : ByteArray) = t at *
  have HO := Lib.hid hO
  obtain ⟨A', c', rfl⟩ := own_form hO
  clear hO
  go_enter Try.func46, Try.ntmps46
  go_wp2_with fail
  refine HA.out.mono ?_
  rintro e w1 ⟨rfl, hb1⟩
  have O1 := Lib.hid (HO.out.step hb1)
  have B1 := Lib.hid (hb1.mono hB)
  have hle := hb1.size
  clear hb1
  go_wp2_with (at_builtin; refine Lib.wpList_append_own_string _ rfl _ _ 54 9 rfl B 5 i0 Try.underlying54 Try.underlying9 hi hz0 hz1 hz2 (.slice A' l.length c') l.length _ rfl O1.out t rfl (by rw [HZ.out]; simp only [maxLen]; omega) (by rw [HZ.out]; omega) (by omega) ?_; intro v' w2 hown' hgrow _; have O2 := Lib.hid hown'; have B2 := Lib.hid (B1.out.grown hgrow (by omega) (fun k hk => (World.ownsRow.lt O1.out k hk).1)); clear hown' hgrow)
  go_ret
  refine ⟨_, rfl, ?_, B2.out⟩
  have := O2.out
  rw [HC.out, byte_app, HZ.out, ← List.length_append] at this
  exact this
theorem gap_bef {l : List Int} {k : Nat} (hk : k < l.length) : gapB 0 (l.take (k + 1)) = gapB 0 (l.take k) ++ Lib.uvarint (l[k]?.getD 0 - befI l k - 1).toNat := by
  rw [gap_step hk]
  unfold befI
  by_cases h : k = 0
  · rw [if_pos h, if_pos h]
    congr 2
    omega
  · rw [if_neg h, if_neg h]
theorem bef_lt {l : List Int} (h : chk l = 0) {k : Nat} (hk : k < l.length) : -1 ≤ befI l k ∧ befI l k < l[k]?.getD 0 := by
  have hv := val_at h hk
  unfold befI
  by_cases h0 : k = 0
  · rw [if_pos h0]; omega
  · rw [if_neg h0]
    have h1 := val_at h (k := k - 1) (by omega)
    have h2 := val_lt h (k := k - 1) (by omega)
    rw [show k - 1 + 1 = k by omega] at h2
    omega
set_option maxHeartbeats 4000000 in
set_option maxRecDepth 100000 in
theorem gEncode_any (zs : List Int) (hl : zs.length ≤ 1000000) (sv : Value) (w : World) (hI : Ints w.heap.size w sv zs) :
    Calls Try.prog 27 #[sv] w (EncPost w (encO zs)) := by
  have CX := Lib.hid (gInvalid_any zs hl sv w hI)
  have CA : Hid (∀ (z : Int) (sb : Value) (l : List UInt8) (v : World), w.heap.size ≤ v.heap.size → OwnBy w.heap.size v sb l → 0 ≤ z → z ≤ 1152921504606846976 → l.length + 10 ≤ 140737488351232 → Calls Try.prog 46 #[sb, .int .i64 z] v fun e w' => ∃ v', e = .returned v' ∧ OwnBy w.heap.size w' v' (l ++ Lib.uvarint z.toNat) ∧ Below w.heap.size v w') := Lib.hid fun z sb l v h1 h2 h3 h4 h5 => appNum_any _ z sb l v h1 h2 h3 h4 h5
  have hun := uv_len9 (m := zs.length) (by omega)
  have hup := Lib.uvarint_pos zs.length
  have hXa := hI.at
  obtain ⟨a, cap, rfl, hcx⟩ := hXa
  have HX := Lib.hid hcx
  clear hcx hI
  by_cases h0 : chk zs = 0
  · have HE := Lib.hid (encO_ok h0)
    have HV := Lib.hid h0
    rw [h0, show ((0 : Int) != 0) = false from rfl] at CX
    clear h0
    go_enter Try.func27, Try.ntmps27
    go_wp2_with fail
    refine CX.out.mono ?_
    rintro e w1 ⟨rfl, hb1⟩
    have B1 := Lib.hid hb1
    clear hb1
    go_wp2_with fail
    refine (CA.out (zs.length : Int) (.slice none 0 0) [] _ B1.out.size (OwnBy.nil_ _ _) (by omega) (by omega) (by simp)).mono ?_
    rintro e w2 ⟨v2, rfl, ho2, hb2⟩
    have B2 := Lib.hid (B1.out.trans hb2)
    rw [List.nil_append, Int.toNat_natCast] at ho2
    have O2 := Lib.hid ho2
    clear hb2 ho2 CX
    go_wp2
    go_loopw [4, 5, 15] (fun vs vb vi wr => ∃ (k : Nat) (y : Int) (t : List UInt8), k ≤ zs.length ∧ t.length ≤ 9 * k + 9 ∧ vb = .int .i64 y ∧ vi = .int .i64 k ∧ Hid (y = befI zs k) ∧ Hid (t = Lib.uvarint zs.length ++ gapB 0 (zs.take k)) ∧ Hid (OwnBy w.heap.size wr vs t) ∧ Hid (Below w.heap.size w wr))
      (fun _ _ vi _ => zs.length - (intOf vi).toNat)
    case atStart => exact ⟨0, -1, _, Nat.zero_le _, by omega, rfl, rfl, Lib.hid rfl, Lib.hid (by simp [gapB]), O2, B2⟩
    case round =>
      clear B2 O2
      obtain ⟨k, y, t, hk, htl, rfl, rfl, HY, HQ, HO, HB⟩ := hrel
      obtain ⟨A', c', rfl⟩ := own_form HO.out
      by_cases hlt : k < zs.length
      · obtain ⟨b, o, rfl, hb, hc⟩ := HX.out (List.ne_nil_of_length_pos (by omega))
        have hcell := (HB.out.cell (p := ⟨b, o + k, none⟩) (by simp; omega)).trans (hc k hlt)
        have hi' : (k : Int) < zs.length := by omega
        have hva := val_at HV.out hlt
        have hbe := bef_lt HV.out hlt
        have HG := Lib.hid (gap_bef hlt)
        have HN := Lib.hid (bef_next zs k)
        rw [← HY.out] at hbe HG
        clear hc
        generalize zs[k]?.getD 0 = x at *
        have hlen := uv_len9 (m := (x - y - 1).toNat) (by omega)
        go_wp2_with fail
        refine (CA.out (x - y - 1) _ t _ HB.out.size HO.out (by omega) (by omega) (by omega)).mono ?_
        rintro e w3 ⟨v3, rfl, ho3, hb3⟩
        have B3 := Lib.hid (HB.out.trans hb3)
        have O3 := Lib.hid ho3
        clear hb3 ho3
        go_wp2
        go_roundw
        case rel => exact ⟨k + 1, x, _, by omega, by rw [List.length_append]; omega, rfl, by go_num, Lib.hid HN.out.symm, Lib.hid (by rw [HQ.out, HG.out, List.append_assoc]), O3, B3⟩
        case measure => simp [intOf]; omega
      · have HF : Hid (t = encP zs) := by
          have h := HQ.out
          rw [List.take_of_length_le (by omega)] at h
          exact h
        have htp : 1 ≤ t.length := by
          have := encP_len zs
          rw [HF.out]
          omega
        obtain ⟨g, cap', ev, hcv⟩ := conv_own HO.out htp
        rw [ev]
        clear ev
        generalize t.length = tn at *
        have HCV := Lib.hid hcv
        go_wp2
        go_ret2
        rw [HE.out]
        exact ⟨by rw [HF.out]; rfl, HB.out⟩
  · have HE := Lib.hid (encO_bad h0)
    rw [bne_yes h0] at CX
    clear h0
    go_enter Try.func27, Try.ntmps27
    go_wp2_with fail
    refine CX.out.mono ?_
    rintro e w1 ⟨rfl, hb1⟩
    have B1 := Lib.hid hb1
    clear hb1
    go_wp2
    go_ret2
    rw [HE.out]
    exact ⟨rfl, B1.out⟩
end Go.Proofs.Ytejnmjaclhmelaa.Po
