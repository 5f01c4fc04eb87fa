/- Layer 9: columns read; encodings of columns decoded. -/
import Derived.Test.YtmeekciclfgkkaaDcH
set_option linter.unusedVariables false
set_option linter.unusedSimpArgs false
namespace Go.Proofs.Ytmeekciclfgkkaa.Dc
open Go.RowKit
theorem CutOut.far {w w1 w2 : World} {rb : Nat} {l : List Int} {rest : List UInt8} {v : Value} (hg : w.grownBy w1 (some rb)) (hr : Rest w1 rb rest) (hb : Below w1.heap.size w1 w2) (hv : Ints w2.heap.size w2 v l) : CutOut w rb l rest (.returned (.tuple #[v, .int .i64 0])) w2 :=
  ⟨v, rfl, hv, hr.below hb, hg.trans (below_grown hb _)⟩

set_option maxHeartbeats 2000000 in
theorem cut_runs (zs : List Int) (hl : zs.length ≤ 1000000) (hz : within 576460752303423488 zs) (rest : List UInt8) (rb : Nat) (w : World) (hlt : rb < w.heap.size) (hb : (tailV zs ++ rest).length ≤ 4294967000) (hR : Rest w rb (tailV zs ++ rest)) :
    Calls Try.prog 31 #[.pointer (some ⟨rb, 0, none⟩), .int .i64 zs.length, .func (.func 35) #[.pointer (some ⟨rb, 0, none⟩)] #[]] w (CutOut w rb zs rest) := by
  cases zs with
  | nil =>
    have HR : Hid (Rest w rb rest) := hR
    clear hR hb
    go_enter Try.func31, Try.ntmps31
    go_wp2
    go_ret2
    exact ⟨_, rfl, Ints.nil_ _ _, HR.out, World.grownBy.refl _ _⟩
  | cons z l =>
    have hzz := hz z (List.mem_cons_self ..)
    have HSP : tailV (z :: l) = sB z ++ rleB (diffs (z :: l)) := rfl
    rw [HSP, List.append_assoc] at hR hb
    have hb2 : (rleB (diffs (z :: l)) ++ rest).length ≤ 4294967000 := by rw [List.length_append] at hb; omega
    have HA := Lib.hid (next_signed z (rleB (diffs (z :: l)) ++ rest) rb w (by omega) (by omega) hb hR)
    have hdl := diffs_length (z :: l)
    have HF : Hid (∀ v, rb < v.heap.size → Rest v rb (rleB (diffs (z :: l)) ++ rest) → Calls Try.prog 35 #[.pointer (some ⟨rb, 0, none⟩), .int .i64 (((z :: l).length : Int) - 1)] v (CutOut v rb (diffs (z :: l)) rest)) := Lib.hid fun v h1 h2 => by
      rw [show (((z :: l).length : Int) - 1) = ((diffs (z :: l)).length : Int) by have : 0 < (z :: l).length := by simp
                                                                                  omega]
      exact runs_any (diffs (z :: l)) (by rw [hdl]; omega) (hz.diffs.mono (by decide)) rest rb v h1 hb2 h2
    have HQ : Hid (∀ v w, Ints w.heap.size w v (diffs (z :: l)) → Calls Try.prog 39 #[.int .i64 z, v] w (IntsOut w (z :: l))) := Lib.hid fun v w h => sums_any z l hl (hz.mono (by decide)) v w h
    have hq : (((z :: l).length : Int) == 0) = false := by rw [beq_eq_false_iff_ne]; simp; omega
    have HLT := Lib.hid hlt
    clear hR hb hb2 HSP hz hzz hdl hlt
    generalize rleB (diffs (z :: l)) ++ rest = bs at *
    generalize diffs (z :: l) = ds at *
    generalize z :: l = zs at *
    go_enter Try.func31, Try.ntmps31
    go_wp2_with fail
    refine HA.out.mono ?_
    rintro e w1 ⟨rfl, hr1, hg1⟩
    have R1 := Lib.hid hr1
    have G1 := Lib.hid hg1
    clear hr1 hg1 HA
    go_wp2_with fail
    refine (HF.out _ (Nat.lt_of_lt_of_le HLT.out G1.out.size) R1.out).mono ?_
    rintro e w2 ⟨v2, rfl, hi2, hr2, hg2⟩
    have R2 := Lib.hid hr2
    have G2 := Lib.hid (G1.out.trans hg2)
    have I2 := Lib.hid hi2
    obtain ⟨a2, c2, rfl, _⟩ := hi2
    clear hr2 hg2 HF
    go_wp2_with fail
    refine (HQ.out _ _ I2.out).mono ?_
    rintro e w3 ⟨v3, rfl, hi3, hb3⟩
    have C3 := Lib.hid (CutOut.far G2.out R2.out hb3 hi3)
    obtain ⟨a3, c3, rfl, _⟩ := hi3
    clear hb3
    go_wp2
    go_ret2
    exact C3.out
set_option maxHeartbeats 2000000 in
theorem values_dec (zs : List Int) (hl : zs.length ≤ 1000000) (hz : within 576460752303423488 zs) (rest : List UInt8) (rb : Nat) (w : World) (hlt : rb < w.heap.size) (hb : (tailV zs ++ rest).length ≤ 4294967000) (hR : Rest w rb (tailV zs ++ rest)) :
    Calls Try.prog 24 #[.pointer (some ⟨rb, 0, none⟩), .int .i64 zs.length] w (CutOut w rb zs rest) := by
  have HM := Lib.hid (cut_runs zs hl hz rest rb w hlt hb hR)
  clear hR hb hz
  go_enter Try.func24, Try.ntmps24
  go_wp2_with fail
  refine HM.out.mono ?_
  rintro e w3 ⟨v3, rfl, hi3, hr3, hg3⟩
  have I3 := Lib.hid hi3
  have R3 := Lib.hid hr3
  have G3 := Lib.hid hg3
  obtain ⟨a3, c3, rfl, _⟩ := hi3
  clear hr3 hg3
  go_wp2
  go_ret2
  exact ⟨_, rfl, I3.out, R3.out, G3.out⟩

set_option maxHeartbeats 2000000 in
theorem cut_values (zs : List Int) (hl : zs.length ≤ 1000000) (hz : within 288230376151711744 zs) (rest : List UInt8) (rb : Nat) (w : World) (hlt : rb < w.heap.size) (hb : (tailT zs ++ rest).length ≤ 4294967000) (hR : Rest w rb (tailT zs ++ rest)) :
    Calls Try.prog 31 #[.pointer (some ⟨rb, 0, none⟩), .int .i64 zs.length, .func (.func 24) #[.pointer (some ⟨rb, 0, none⟩)] #[]] w (CutOut w rb zs rest) := by
  cases zs with
  | nil =>
    have HR : Hid (Rest w rb rest) := hR
    clear hR hb
    go_enter Try.func31, Try.ntmps31
    go_wp2
    go_ret2
    exact ⟨_, rfl, Ints.nil_ _ _, HR.out, World.grownBy.refl _ _⟩
  | cons z l =>
    have hzz := hz z (List.mem_cons_self ..)
    have HSP : tailT (z :: l) = sB z ++ tailV (diffs (z :: l)) := rfl
    rw [HSP, List.append_assoc] at hR hb
    have hb2 : (tailV (diffs (z :: l)) ++ rest).length ≤ 4294967000 := by rw [List.length_append] at hb; omega
    have HA := Lib.hid (next_signed z (tailV (diffs (z :: l)) ++ rest) rb w (by omega) (by omega) hb hR)
    have hdl := diffs_length (z :: l)
    have HF : Hid (∀ v, rb < v.heap.size → Rest v rb (tailV (diffs (z :: l)) ++ rest) → Calls Try.prog 24 #[.pointer (some ⟨rb, 0, none⟩), .int .i64 (((z :: l).length : Int) - 1)] v (CutOut v rb (diffs (z :: l)) rest)) := Lib.hid fun v h1 h2 => by
      rw [show (((z :: l).length : Int) - 1) = ((diffs (z :: l)).length : Int) by have : 0 < (z :: l).length := by simp
                                                                                  omega]
      exact values_dec (diffs (z :: l)) (by rw [hdl]; omega) (hz.diffs.mono (by decide)) rest rb v h1 hb2 h2
    have HQ : Hid (∀ v w, Ints w.heap.size w v (diffs (z :: l)) → Calls Try.prog 39 #[.int .i64 z, v] w (IntsOut w (z :: l))) := Lib.hid fun v w h => sums_any z l hl (hz.mono (by decide)) v w h
    have hq : (((z :: l).length : Int) == 0) = false := by rw [beq_eq_false_iff_ne]; simp; omega
    have HLT := Lib.hid hlt
    clear hR hb hb2 HSP hz hzz hdl hlt
    generalize tailV (diffs (z :: l)) ++ rest = bs at *
    generalize diffs (z :: l) = ds at *
    generalize z :: l = zs at *
    go_enter Try.func31, Try.ntmps31
    go_wp2_with fail
    refine HA.out.mono ?_
    rintro e w1 ⟨rfl, hr1, hg1⟩
    have R1 := Lib.hid hr1
    have G1 := Lib.hid hg1
    clear hr1 hg1 HA
    go_wp2_with fail
    refine (HF.out _ (Nat.lt_of_lt_of_le HLT.out G1.out.size) R1.out).mono ?_
    rintro e w2 ⟨v2, rfl, hi2, hr2, hg2⟩
    have R2 := Lib.hid hr2
    have G2 := Lib.hid (G1.out.trans hg2)
    have I2 := Lib.hid hi2
    obtain ⟨a2, c2, rfl, _⟩ := hi2
    clear hr2 hg2 HF
    go_wp2_with fail
    refine (HQ.out _ _ I2.out).mono ?_
    rintro e w3 ⟨v3, rfl, hi3, hb3⟩
    have C3 := Lib.hid (CutOut.far G2.out R2.out hb3 hi3)
    obtain ⟨a3, c3, rfl, _⟩ := hi3
    clear hb3
    go_wp2
    go_ret2
    exact C3.out
set_option maxHeartbeats 2000000 in
theorem times_dec (zs : List Int) (hl : zs.length ≤ 1000000) (hz : within 288230376151711744 zs) (rest : List UInt8) (rb : Nat) (w : World) (hlt : rb < w.heap.size) (hb : (tailT zs ++ rest).length ≤ 4294967000) (hR : Rest w rb (tailT zs ++ rest)) :
    Calls Try.prog 20 #[.pointer (some ⟨rb, 0, none⟩), .int .i64 zs.length] w (CutOut w rb zs rest) := by
  have HM := Lib.hid (cut_values zs hl hz rest rb w hlt hb hR)
  clear hR hb hz
  go_enter Try.func20, Try.ntmps20
  go_wp2_with fail
  refine HM.out.mono ?_
  rintro e w3 ⟨v3, rfl, hi3, hr3, hg3⟩
  have I3 := Lib.hid hi3
  have R3 := Lib.hid hr3
  have G3 := Lib.hid hg3
  obtain ⟨a3, c3, rfl, _⟩ := hi3
  clear hr3 hg3
  go_wp2
  go_ret2
  exact ⟨_, rfl, I3.out, R3.out, G3.out⟩

set_option maxHeartbeats 2000000 in
theorem decode_DecodeTimes (zs : List Int) (hl : zs.length ≤ 20000) (h0 : chkT 0 zs = 0) (rb : Nat) (w : World) (hlt : rb < w.heap.size) (hb : (encT zs).length ≤ 4294967000) (hR : Rest w rb (encT zs)) :
    Calls Try.prog 19 #[.pointer (some ⟨rb, 0, none⟩), .func (.func 20) #[.pointer (some ⟨rb, 0, none⟩)] #[], .func (.func 7) #[] #[]] w fun e w' => ∃ v, e = .returned (.tuple #[v, .int .i64 0]) ∧ Ints w'.heap.size w' v zs ∧ w.grownBy w' (some rb) := by
  have HE : encTO zs = (encT zs, 0) := by
    unfold encTO
    rw [if_neg (by omega), if_neg (by omega)]
  have hW : within 288230376151711744 zs := fun x hx => by
    have := chkT_zero h0 x hx
    unfold okT at this
    omega
  have hcell : w.cell? ⟨rb, 0, none⟩ = some (.string ⟨(encT zs).toArray⟩) := Boxed.cell hR
  have HA := Lib.hid (count_any zs.length (tailT zs) rb w (by omega) hb hR)
  have hb2 : (tailT zs ++ []).length ≤ 4294967000 := by
    unfold encT at hb
    rw [List.length_append] at hb
    rw [List.append_nil]
    omega
  have HF : Hid (∀ v, rb < v.heap.size → Rest v rb (tailT zs) → Calls Try.prog 20 #[.pointer (some ⟨rb, 0, none⟩), .int .i64 zs.length] v (CutOut v rb zs [])) := Lib.hid fun v h1 h2 => times_dec zs (by omega) hW [] rb v h1 hb2 (by rw [List.append_nil]; exact h2)
  have HQ : Hid (∀ v w, Ints w.heap.size w v zs → Calls Try.prog 7 #[v] w fun e w' => e = .returned (.tuple #[.string ⟨(encT zs).toArray⟩, .int .i64 0]) ∧ Below w.heap.size w w') := Lib.hid fun v w h => by
    have h2 := EncodeTimes_any zs (by omega) v w h
    rwa [HE] at h2
  have HLT := Lib.hid hlt
  clear hR hb hb2 HE hW h0 hlt
  generalize (⟨(encT zs).toArray⟩ : ByteArray) = t at *
  generalize tailT zs = bs at *
  go_enter Try.func19, Try.ntmps19
  go_wp2_with fail
  refine HA.out.mono ?_
  rintro e w1 ⟨rfl, hr1, hg1⟩
  have R1 := Lib.hid hr1
  have G1 := Lib.hid hg1
  clear hr1 hg1 HA hcell
  go_wp2_with fail
  refine (HF.out _ (Nat.lt_of_lt_of_le HLT.out G1.out.size) R1.out).mono ?_
  rintro e w2 ⟨v2, rfl, hi2, hr2, hg2⟩
  have G2 := Lib.hid (G1.out.trans hg2)
  have I2 := Lib.hid hi2
  obtain ⟨a2, c2, rfl, _⟩ := hi2
  clear hr2 hg2 HF R1
  go_wp2_with fail
  refine (HQ.out _ _ I2.out).mono ?_
  rintro e w3 ⟨rfl, hb3⟩
  have I3 := Lib.hid (I2.out.onto hb3)
  have G3 := Lib.hid (G2.out.trans (below_grown hb3 _))
  clear hb3
  go_wp2
  go_ret2
  exact ⟨_, rfl, I3.out, G3.out⟩
set_option maxHeartbeats 2000000 in
theorem DecodeTimes_any (zs : List Int) (hl : zs.length ≤ 20000) (h0 : chkT 0 zs = 0) (hb : (encT zs).length ≤ 4294967000) (w : World) :
    Calls Try.prog 8 #[.string ⟨(encT zs).toArray⟩] w fun e w' => ∃ v, e = .returned (.tuple #[v, .int .i64 0]) ∧ Ints w'.heap.size w' v zs ∧ Below w.heap.size w w' := by
  have HA := Lib.hid (decode_DecodeTimes zs hl h0 w.heap.size _ (by simp) hb (rest_new w _))
  have B0 : Hid (Below w.heap.size w (w.alloc (.cells #[.string ⟨(encT zs).toArray⟩] 42))) := (Below.refl _ _).alloc (Nat.le_refl _) _
  generalize (⟨(encT zs).toArray⟩ : ByteArray) = t at *
  clear hb h0
  go_enter Try.func8, Try.ntmps8
  go_wp2_with fail
  refine HA.out.mono ?_
  rintro e w1 ⟨v1, rfl, hi1, hg1⟩
  have B1 := Lib.hid (new_below B0.out hg1)
  have I1 := Lib.hid hi1
  obtain ⟨a1, c1, rfl, _⟩ := hi1
  clear hg1 HA
  go_wp2
  go_ret2
  exact ⟨_, rfl, I1.out, B1.out⟩

set_option maxHeartbeats 2000000 in
theorem decode_DecodeValues (zs : List Int) (hl : zs.length ≤ 20000) (h0 : chkV zs = 0) (rb : Nat) (w : World) (hlt : rb < w.heap.size) (hb : (encV zs).length ≤ 4294967000) (hR : Rest w rb (encV zs)) :
    Calls Try.prog 19 #[.pointer (some ⟨rb, 0, none⟩), .func (.func 24) #[.pointer (some ⟨rb, 0, none⟩)] #[], .func (.func 11) #[] #[]] w fun e w' => ∃ v, e = .returned (.tuple #[v, .int .i64 0]) ∧ Ints w'.heap.size w' v zs ∧ w.grownBy w' (some rb) := by
  have HE : encVO zs = (encV zs, 0) := by
    unfold encVO
    rw [if_neg (by omega), if_neg (by omega)]
  have hW : within 576460752303423488 zs := fun x hx => by
    have := chkV_zero h0 x hx
    unfold okV at this
    omega
  have hcell : w.cell? ⟨rb, 0, none⟩ = some (.string ⟨(encV zs).toArray⟩) := Boxed.cell hR
  have HA := Lib.hid (count_any zs.length (tailV zs) rb w (by omega) hb hR)
  have hb2 : (tailV zs ++ []).length ≤ 4294967000 := by
    unfold encV at hb
    rw [List.length_append] at hb
    rw [List.append_nil]
    omega
  have HF : Hid (∀ v, rb < v.heap.size → Rest v rb (tailV zs) → Calls Try.prog 24 #[.pointer (some ⟨rb, 0, none⟩), .int .i64 zs.length] v (CutOut v rb zs [])) := Lib.hid fun v h1 h2 => values_dec zs (by omega) hW [] rb v h1 hb2 (by rw [List.append_nil]; exact h2)
  have HQ : Hid (∀ v w, Ints w.heap.size w v zs → Calls Try.prog 11 #[v] w fun e w' => e = .returned (.tuple #[.string ⟨(encV zs).toArray⟩, .int .i64 0]) ∧ Below w.heap.size w w') := Lib.hid fun v w h => by
    have h2 := EncodeValues_any zs (by omega) v w h
    rwa [HE] at h2
  have HLT := Lib.hid hlt
  clear hR hb hb2 HE hW h0 hlt
  generalize (⟨(encV zs).toArray⟩ : ByteArray) = t at *
  generalize tailV zs = bs at *
  go_enter Try.func19, Try.ntmps19
  go_wp2_with fail
  refine HA.out.mono ?_
  rintro e w1 ⟨rfl, hr1, hg1⟩
  have R1 := Lib.hid hr1
  have G1 := Lib.hid hg1
  clear hr1 hg1 HA hcell
  go_wp2_with fail
  refine (HF.out _ (Nat.lt_of_lt_of_le HLT.out G1.out.size) R1.out).mono ?_
  rintro e w2 ⟨v2, rfl, hi2, hr2, hg2⟩
  have G2 := Lib.hid (G1.out.trans hg2)
  have I2 := Lib.hid hi2
  obtain ⟨a2, c2, rfl, _⟩ := hi2
  clear hr2 hg2 HF R1
  go_wp2_with fail
  refine (HQ.out _ _ I2.out).mono ?_
  rintro e w3 ⟨rfl, hb3⟩
  have I3 := Lib.hid (I2.out.onto hb3)
  have G3 := Lib.hid (G2.out.trans (below_grown hb3 _))
  clear hb3
  go_wp2
  go_ret2
  exact ⟨_, rfl, I3.out, G3.out⟩
set_option maxHeartbeats 2000000 in
theorem DecodeValues_any (zs : List Int) (hl : zs.length ≤ 20000) (h0 : chkV zs = 0) (hb : (encV zs).length ≤ 4294967000) (w : World) :
    Calls Try.prog 12 #[.string ⟨(encV zs).toArray⟩] w fun e w' => ∃ v, e = .returned (.tuple #[v, .int .i64 0]) ∧ Ints w'.heap.size w' v zs ∧ Below w.heap.size w w' := by
  have HA := Lib.hid (decode_DecodeValues zs hl h0 w.heap.size _ (by simp) hb (rest_new w _))
  have B0 : Hid (Below w.heap.size w (w.alloc (.cells #[.string ⟨(encV zs).toArray⟩] 42))) := (Below.refl _ _).alloc (Nat.le_refl _) _
  generalize (⟨(encV zs).toArray⟩ : ByteArray) = t at *
  clear hb h0
  go_enter Try.func12, Try.ntmps12
  go_wp2_with fail
  refine HA.out.mono ?_
  rintro e w1 ⟨v1, rfl, hi1, hg1⟩
  have B1 := Lib.hid (new_below B0.out hg1)
  have I1 := Lib.hid hi1
  obtain ⟨a1, c1, rfl, _⟩ := hi1
  clear hg1 HA
  go_wp2
  go_ret2
  exact ⟨_, rfl, I1.out, B1.out⟩
end Go.Proofs.Ytmeekciclfgkkaa.Dc
