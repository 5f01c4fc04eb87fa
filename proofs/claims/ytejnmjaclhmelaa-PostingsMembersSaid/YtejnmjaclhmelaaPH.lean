/- Layer 8: the reference's Encode, Decode. -/
import Derived.Test.YtejnmjaclhmelaaPG
import Derived.Test.YtejnmjaclhmelaaPoB
import Derived.Test.YtejnmjaclhmelaaGet
import Derived.Test.YtejnmjaclhmelaaApp
import Derived.Lib.IndexBytes
set_option linter.unusedVariables false
set_option linter.unusedSimpArgs false
namespace Go.Proofs.Ytejnmjaclhmelaa.Po
open Go.RowKit
theorem gap_step {l : List Int} {k : Nat} (hk : k < l.length) : gapB 0 (l.take (k + 1)) = gapB 0 (l.take k) ++ Lib.uvarint (if k = 0 then l[k]?.getD 0 else l[k]?.getD 0 - l[k - 1]?.getD 0 - 1).toNat := by
  rw [take_snoc l k hk, gapB_snoc, List.getLast?_take]
  by_cases h : k = 0
  · subst h; simp
  · rw [if_neg h, if_neg h]
    have h2 : l[k - 1]? = some (l[k - 1]?.getD 0) := by rw [List.getElem?_eq_getElem (by omega)]; rfl
    rw [h2]
    simp only [Option.some_or, Option.getD_some]
    congr 2
    omega
theorem gap_first {l : List Int} (hk : 0 < l.length) {n : Nat} (h : l[0]?.getD 0 = (n : Int)) : gapB 0 (l.take (0 + 1)) = gapB 0 (l.take 0) ++ Lib.uvarint n := by
  have e := gap_step hk
  rw [if_pos rfl, h] at e
  exact e
theorem gap_next {l : List Int} {k : Nat} (hk : k + 1 < l.length) {n : Nat} (h : l[k + 1]?.getD 0 - l[k]?.getD 0 - 1 = (n : Int)) : gapB 0 (l.take (k + 1 + 1)) = gapB 0 (l.take (k + 1)) ++ Lib.uvarint n := by
  have e := gap_step hk
  rw [if_neg (by omega), show k + 1 - 1 = k by omega, h] at e
  exact e
theorem app_list (t : ByteArray) (l : List UInt8) : (t ++ ⟨l.toArray⟩).data.toList = t.data.toList ++ l := by simp
theorem app_size (t : ByteArray) (l : List UInt8) : (t ++ ⟨l.toArray⟩).size = t.size + l.length := by
  rw [ByteArray.size_append]
  rfl
theorem of_list {t : ByteArray} {l : List UInt8} (h : t.data.toList = l) : t = ⟨l.toArray⟩ := by
  subst h
  cases t
  simp
theorem val_at {l : List Int} (h : chk l = 0) {k : Nat} (hk : k < l.length) : 0 ≤ l[k]?.getD 0 ∧ l[k]?.getD 0 ≤ 1152921504606846976 := (chk_zero.1 h).1 _ (at_mem hk)
theorem val_lt {l : List Int} (h : chk l = 0) {k : Nat} (hk : k + 1 < l.length) : l[k]?.getD 0 < l[k + 1]?.getD 0 := by
  have := List.pairwise_iff_getElem.1 (chk_zero.1 h).2 k (k + 1) (by omega) hk (by omega)
  rw [List.getElem?_eq_getElem hk, List.getElem?_eq_getElem (show k < l.length by omega)]
  exact this
def EncPost (w : World) (r : List UInt8 × Int) (e : Ending) (w' : World) : Prop := e = .returned (.tuple #[.string ⟨r.1.toArray⟩, .int .i64 r.2]) ∧ Below w.heap.size w w'
theorem encO_ok {l : List Int} (h : chk l = 0) : encO l = (encP l, 0) := if_pos h
theorem encO_bad {l : List Int} (h : chk l ≠ 0) : encO l = ([], 1) := if_neg h

set_option maxHeartbeats 4000000 in
set_option maxRecDepth 100000 in
theorem pEncode_any (zs : List Int) (hl : zs.length ≤ 1000000) (sv : Value) (w : World) (hI : Ints w.heap.size w sv zs) :
    Calls Try.prog 28 #[sv] w (EncPost w (encO zs)) := by
  have CK := Lib.hid (pCheck_any zs hl sv w hI.at)
  have CA : Hid (∀ (s : ByteArray) (n : Nat) (v : World), s.size ≤ 4294967000 → n ≤ 1152921504606846976 → Calls Try.prog 47 #[.string s, .int .i64 n] v fun e w' => e = .returned (.tuple #[.string (s ++ ⟨(Lib.uvarint n).toArray⟩), .int .i64 0]) ∧ Below v.heap.size v w') := Lib.hid fun s n v h1 h2 => refAppend_any s n v h1 h2
  have hun := uv_len9 (m := zs.length) (by omega)
  have hXa := hI.at
  obtain ⟨a, cap, rfl, hcx⟩ := hXa
  have HX := Lib.hid hcx
  clear hcx hI
  by_cases h0 : chk zs = 0
  · have HE := Lib.hid (encO_ok h0)
    have HV := Lib.hid h0
    rw [h0] at CK
    clear h0
    go_enter Try.func28, Try.ntmps28
    go_wp2_with (first
      | (go_at_call 15; (with_reducible refine CK.out.mono ?_); rintro e w1 ⟨rfl, hb1⟩; have HB1 := Lib.hid hb1; clear hb1)
      | (go_at_call 47; (with_reducible refine (CA.out ⟨#[]⟩ zs.length _ (by decide) (by omega)).mono ?_); rintro e w2 ⟨rfl, hb2⟩; have HB2 := Lib.hid (HB1.out.trans (hb2.mono HB1.out.size)); clear hb2))
    have HT : Hid ((⟨#[]⟩ ++ ⟨(Lib.uvarint zs.length).toArray⟩ : ByteArray).data.toList = Lib.uvarint zs.length) := Lib.hid (by rw [app_list]; rfl)
    have hts : (⟨#[]⟩ ++ ⟨(Lib.uvarint zs.length).toArray⟩ : ByteArray).size ≤ 9 := by rw [app_size]; have : (⟨#[]⟩ : ByteArray).size = 0 := rfl; omega
    generalize (⟨#[]⟩ ++ ⟨(Lib.uvarint zs.length).toArray⟩ : ByteArray) = t0 at *
    clear HB1 CK
    go_loopw [4, 6] (fun vs vi wr => ∃ (k : Nat) (t : ByteArray), k ≤ zs.length ∧ t.size ≤ 9 * k + 9 ∧ vs = .string t ∧ vi = .int .i64 k ∧ Hid (t.data.toList = Lib.uvarint zs.length ++ gapB 0 (zs.take k)) ∧ Hid (Below w.heap.size w wr))
      (fun _ vi _ => zs.length - (intOf vi).toNat)
    case atStart => exact ⟨0, t0, Nat.zero_le _, by omega, rfl, rfl, Lib.hid (by rw [HT.out]; simp [gapB]), HB2⟩
    case round =>
      clear HT HB2 hts
      obtain ⟨k, t, hk, htl, rfl, rfl, HQ, HB⟩ := hrel
      by_cases hlt : k < zs.length
      · obtain ⟨b, o, rfl, hb, hc⟩ := HX.out (List.ne_nil_of_length_pos (by omega))
        have hcell := (HB.out.cell (p := ⟨b, o + k, none⟩) (by simp; omega)).trans (hc k hlt)
        have hi' : (k : Int) < zs.length := by omega
        have hva := val_at HV.out hlt
        by_cases hk0 : k = 0
        · have HG : Hid (∀ n : Nat, zs[k]?.getD 0 = (n : Int) → gapB 0 (zs.take (k + 1)) = gapB 0 (zs.take k) ++ Lib.uvarint n) := Lib.hid fun n h => by subst hk0; exact gap_first hlt h
          clear hc
          generalize zs[k]?.getD 0 = x at *
          obtain ⟨n, rfl⟩ : ∃ n : Nat, x = n := ⟨x.toNat, by omega⟩
          have HG2 := Lib.hid (HG.out n rfl)
          have hlen := uv_len9 (m := n) (by omega)
          have HA := Lib.hid (fun v => CA.out t n v (by omega) (by omega))
          have hd0 : ¬ ((0 : Int) < (k : Int)) := by omega
          clear HG hk0
          go_wp2_with (go_at_call 47; (with_reducible refine (HA.out _).mono ?_); rintro e w3 ⟨rfl, hb3⟩; have B3 := Lib.hid (HB.out.trans (hb3.mono HB.out.size)); clear hb3)
          go_roundw
          case rel => exact ⟨k + 1, t ++ ⟨(Lib.uvarint n).toArray⟩, by omega, by rw [app_size]; omega, rfl, by go_num, Lib.hid (by rw [app_list, HQ.out, HG2.out, List.append_assoc]), B3⟩
          case measure => simp [intOf]; omega
        · obtain ⟨m, hm⟩ : ∃ m, k = m + 1 := ⟨k - 1, by omega⟩
          have hml : m < zs.length := by omega
          have hcell2 := (HB.out.cell (p := ⟨b, o + m, none⟩) (by simp; omega)).trans (hc m hml)
          have hvb := val_at HV.out hml
          have hlt2 : zs[m]?.getD 0 < zs[k]?.getD 0 := by subst hm; exact val_lt HV.out hlt
          have HG : Hid (∀ n : Nat, zs[k]?.getD 0 - zs[m]?.getD 0 - 1 = (n : Int) → gapB 0 (zs.take (k + 1)) = gapB 0 (zs.take k) ++ Lib.uvarint n) := Lib.hid fun n h => by subst hm; exact gap_next hlt h
          have hw : IntKind.i64.wrap ((k : Int) - 1) = (m : Int) := by rw [IntWalk.i64_in _ (by omega)]; omega
          have hg1 : (0 : Int) < (k : Int) := by omega
          clear hc
          generalize zs[k]?.getD 0 = x at *
          generalize zs[m]?.getD 0 = y at *
          obtain ⟨n, hn⟩ : ∃ n : Nat, x - y - 1 = n := ⟨(x - y - 1).toNat, by omega⟩
          have hw2 : IntKind.i64.wrap (x - y) = x - y := IntWalk.i64_in _ (by omega)
          have hw3 : IntKind.i64.wrap (x - y - 1) = (n : Int) := by rw [IntWalk.i64_in _ (by omega)]; exact hn
          have HG2 := Lib.hid (HG.out n hn)
          have hlen := uv_len9 (m := n) (by omega)
          have HA := Lib.hid (fun v => CA.out t n v (by omega) (by omega))
          clear HG hm hn hlt2 hva hvb
          go_wp2
          go_quiet (fail)
          go_wp2_with (go_at_call 47; (with_reducible refine (HA.out _).mono ?_); rintro e w3 ⟨rfl, hb3⟩; have B3 := Lib.hid ((below_drewP HB.out _).trans (hb3.mono HB.out.size)); clear hb3)
          go_roundw
          case rel => exact ⟨k + 1, t ++ ⟨(Lib.uvarint n).toArray⟩, by omega, by rw [app_size]; omega, rfl, by go_num, Lib.hid (by rw [app_list, HQ.out, HG2.out, List.append_assoc]), B3⟩
          case measure => simp [intOf]; omega
      · have HF : Hid (t = ⟨(encP zs).toArray⟩) := by
          have h := HQ.out
          rw [List.take_of_length_le (by omega)] at h
          exact of_list h
        go_wp2
        go_ret2
        rw [HE.out]
        exact ⟨by rw [HF.out]; rfl, HB.out⟩
  · have HE := Lib.hid (encO_bad h0)
    have hne : (chk zs != 0) = true := by rw [bne_iff_ne]; exact h0
    clear h0
    generalize chk zs = c at *
    go_enter Try.func28, Try.ntmps28
    go_wp2_with (go_at_call 15; (with_reducible refine CK.out.mono ?_); rintro e w1 ⟨rfl, hb1⟩; have HB1 := Lib.hid hb1; clear hb1)
    go_ret2
    rw [HE.out]
    exact ⟨rfl, HB1.out⟩
end Go.Proofs.Ytejnmjaclhmelaa.Po
