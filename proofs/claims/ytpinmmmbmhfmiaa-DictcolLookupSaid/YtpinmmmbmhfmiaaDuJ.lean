/- Layer 10: the program's reader: its numbers and its bytes. -/
import Derived.Deep.RegionLaw
import Derived.Test.YtpinmmmbmhfmiaaRead
import Derived.Test.YtpinmmmbmhfmiaaDuI
import Derived.Test.YtpinmmmbmhfmiaaDuD
set_option linter.unusedVariables false
set_option linter.unusedSimpArgs false
namespace Go.Proofs.Ytpinmmmbmhfmiaa.Dt
open Go.RowKit Dc
/-- What is still to be read. -/
def Rest (W : World) (r : Nat) (s : List UInt8) : Prop := Boxed W r 56 (.string ⟨s.toArray⟩)
theorem Rest.kept {W W' : World} {r : Nat} {s : List UInt8} {row : Option Nat} (h : Rest W r s) (hg : W.grownBy W' row) (hne : some r ≠ row) : Rest W' r s := Boxed.kept h hg hne
theorem Rest.below {W W' : World} {r : Nat} {s : List UInt8} (h : Rest W r s) (hb : Below W.heap.size W W') : Rest W' r s := boxed_below h hb
theorem mk_size (l : List UInt8) : (⟨l.toArray⟩ : BA).size = l.length := by show l.toArray.size = _; simp
theorem mk_list (l : List UInt8) : (⟨l.toArray⟩ : BA).data.toList = l := by simp
theorem cut_drop (s : List UInt8) (k : Nat) : (⟨s.toArray⟩ : BA).extract k (⟨s.toArray⟩ : BA).size = ⟨(s.drop k).toArray⟩ := by
  apply of_list
  rw [drop_ext]
theorem cut_take (s : List UInt8) (k : Nat) : (⟨s.toArray⟩ : BA).extract 0 k = ⟨(s.take k).toArray⟩ := by
  apply of_list
  rw [Lib.extract_data]
  simp
set_option maxHeartbeats 2000000 in
theorem upTo_any (most : Int) (s : List UInt8) (hl : s.length ≤ 4294967000) (r : Nat) (w : World) (hR : Rest w r s) :
    Calls Try.prog 56 #[.pointer (some ⟨r, 0, none⟩), .int .i64 most] w fun e w' => e = .returned (.int .i64 ((upT most s).1 : Nat)) ∧ Rest w' r (upT most s).2 ∧ w.grownBy w' (some r) := by
  have HA := Lib.hid (read_any ⟨s.toArray⟩ (by rw [mk_size]; exact hl) w)
  rw [mk_list] at HA
  have HRest := Lib.hid hR
  have HR : Hid (Boxed w r 56 (.string ⟨s.toArray⟩)) := hR
  have hcell := HR.out.cell
  have hcut := cut_drop s (rd 1152921504606846976 0 0 s).2.1
  have hle : (rd 1152921504606846976 0 0 s).2.1 ≤ (⟨s.toArray⟩ : BA).size := by rw [mk_size]; exact rd_sz
  by_cases he : (rd 1152921504606846976 0 0 s).2.2 = 0
  · by_cases hm : most < ((rd 1152921504606846976 0 0 s).1 : Int)
    · have HU := Lib.hid (upT_none (most := most) (s := s) (by unfold rdN; rw [if_neg (by omega), if_pos hm]))
      rw [HU.out]
      dsimp only
      rw [he] at HA
      clear hcut hR he HU
      generalize (⟨s.toArray⟩ : BA) = t at *
      generalize (rd 1152921504606846976 0 0 s).2.1 = k at *
      generalize (rd 1152921504606846976 0 0 s).1 = n at *
      go_enter Try.func56, Try.ntmps56
      go_wp2_with fail
      refine HA.out.mono ?_
      rintro e w1 ⟨rfl, hb1⟩
      have K1 := Lib.hid (Rest.below HRest.out hb1)
      have G1 := Lib.hid (below_grown hb1 (some r))
      clear hb1 hcell HA
      go_wp2
      go_ret
      exact ⟨rfl, K1.out, G1.out⟩
    · have HU := Lib.hid (upT_some (most := most) (s := s) (p := ((rd 1152921504606846976 0 0 s).1, s.drop (rd 1152921504606846976 0 0 s).2.1)) (by unfold rdN; rw [if_neg (by omega), if_neg hm]))
      rw [HU.out]
      dsimp only
      rw [he] at HA
      have HC := Lib.hid hcut
      clear hR he hcut HU
      generalize (⟨s.toArray⟩ : BA) = t at *
      generalize (rd 1152921504606846976 0 0 s).2.1 = k at *
      generalize (rd 1152921504606846976 0 0 s).1 = n at *
      go_enter Try.func56, Try.ntmps56
      go_wp2_with fail
      refine HA.out.mono ?_
      rintro e w1 ⟨rfl, hb1⟩
      have k1 := boxed_below HR.out hb1
      have G1 := Lib.hid (below_grown hb1 (some r))
      have hc1 := k1.cell
      have hf1 := k1.frozen
      have K1 := Lib.hid k1
      clear hb1 k1 hcell HA
      go_wp2
      go_ret
      refine ⟨rfl, ?_, G1.out.trans (grownBy_setCell' _ _ _)⟩
      unfold Rest
      rw [← HC.out]
      exact K1.out.set _
  · have HU := Lib.hid (upT_none (most := most) (s := s) (by unfold rdN; rw [if_pos he]))
    rw [HU.out]
    dsimp only
    have hne : (((rd 1152921504606846976 0 0 s).2.2 : Nat) : Int) ≠ 0 := by omega
    have hnb := bne_yes hne
    clear hcut he HU hR
    generalize (⟨s.toArray⟩ : BA) = t at *
    generalize (rd 1152921504606846976 0 0 s).2.1 = k at *
    generalize (rd 1152921504606846976 0 0 s).1 = n at *
    generalize (rd 1152921504606846976 0 0 s).2.2 = er at *
    go_enter Try.func56, Try.ntmps56
    go_wp2_with fail
    refine HA.out.mono ?_
    rintro e w1 ⟨rfl, hb1⟩
    have K1 := Lib.hid (Rest.below HRest.out hb1)
    have G1 := Lib.hid (below_grown hb1 (some r))
    clear hb1 hcell HA
    go_wp2
    go_ret
    exact ⟨rfl, K1.out, G1.out⟩
set_option maxHeartbeats 2000000 in
theorem bytes_any (m : Nat) (hm : m ≤ 100000) (s : List UInt8) (r : Nat) (w : World) (hR : Rest w r s) :
    Calls Try.prog 95 #[.pointer (some ⟨r, 0, none⟩), .int .i64 m] w fun e w' => e = .returned (.string ⟨(s.take m).toArray⟩) ∧ Rest w' r (s.drop m) ∧ w.grownBy w' (some r) := by
  have HR : Hid (Boxed w r 56 (.string ⟨s.toArray⟩)) := hR
  have hcell := HR.out.cell
  have hfz := HR.out.frozen
  have hsz := mk_size s
  by_cases hlt : s.length < m
  · have h1 : s.take m = s.take s.length := by rw [List.take_of_length_le (by omega), List.take_length]
    have h2 : s.drop m = s.drop s.length := by rw [List.drop_eq_nil_of_le (by omega), List.drop_length]
    rw [h1, h2]
    have HT := Lib.hid (cut_take s s.length)
    have HD := Lib.hid (cut_drop s s.length)
    have hts : (⟨(s.take s.length).toArray⟩ : BA).size = s.length := by rw [mk_size, List.length_take]; omega
    have hex : ((⟨s.toArray⟩ : BA).extract 0 s.length).size = s.length := by rw [HT.out]; exact hts
    have hmi : (s.length : Int) ≤ (⟨s.toArray⟩ : BA).size := by rw [hsz]; omega
    have hcmp : (⟨s.toArray⟩ : BA).size < m := by rw [hsz]; exact hlt
    have hJi : (s.length : Nat) ≤ (⟨s.toArray⟩ : BA).size := by rw [hsz]; omega
    have HSZ := Lib.hid hsz
    clear hsz hts
    generalize (⟨s.toArray⟩ : BA) = t at *
    go_enter Try.func95, Try.ntmps95
    go_wp2
    go_quiet (fail)
    go_wp2
    go_ret
    have hs3 := HSZ.out
    have e1 : (min (m : Int) (t.size : Int)).toNat = s.length := by omega
    have e2 : min s.length t.size = s.length := by omega
    simp only [e1, e2]
    refine ⟨by rw [← HT.out]; rfl, ?_, ?_⟩
    · unfold Rest
      rw [← HD.out]
      exact (show Boxed (w.drewN nq) r _ _ from HR.out).set _
    · exact (show w.grownBy (w.drewN nq) (some r) from ⟨rfl, rfl, rfl, Nat.le_refl _, fun _ _ _ => rfl⟩).trans (grownBy_setCell' _ _ _)
  · have hlt2 : ¬ s.length < m := hlt
    have HT := Lib.hid (cut_take s m)
    have HD := Lib.hid (cut_drop s m)
    have hts : (⟨(s.take m).toArray⟩ : BA).size = m := by rw [mk_size, List.length_take]; omega
    have hex : ((⟨s.toArray⟩ : BA).extract 0 m).size = m := by rw [HT.out]; exact hts
    have hmi : (m : Int) ≤ (⟨s.toArray⟩ : BA).size := by rw [hsz]; omega
    have hcmp : ¬ (⟨s.toArray⟩ : BA).size < m := by rw [hsz]; exact hlt2
    have hKi : (m : Nat) ≤ (⟨s.toArray⟩ : BA).size := by rw [hsz]; omega
    have HSZ := Lib.hid hsz
    clear hsz hts
    generalize (⟨s.toArray⟩ : BA) = t at *
    go_enter Try.func95, Try.ntmps95
    go_wp2
    go_quiet (fail)
    go_wp2
    go_ret
    have hs3 := HSZ.out
    have e1 : (min (m : Int) (t.size : Int)).toNat = m := by omega
    have e2 : min m t.size = m := by omega
    simp only [e1, e2]
    refine ⟨by rw [← HT.out]; rfl, ?_, ?_⟩
    · unfold Rest
      rw [← HD.out]
      exact (show Boxed (w.drewN nq) r _ _ from HR.out).set _
    · exact (show w.grownBy (w.drewN nq) (some r) from ⟨rfl, rfl, rfl, Nat.le_refl _, fun _ _ _ => rfl⟩).trans (grownBy_setCell' _ _ _)
end Go.Proofs.Ytpinmmmbmhfmiaa.Dt
