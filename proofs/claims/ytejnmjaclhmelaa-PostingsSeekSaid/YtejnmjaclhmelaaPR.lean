/- Layer 8: the walk of the law PostingsSeek. -/
import Derived.Test.YtejnmjaclhmelaaPN
set_option linter.unusedVariables false
set_option linter.unusedSimpArgs false
namespace Go.Proofs.Ytejnmjaclhmelaa.Po
open Go.RowKit
set_option maxHeartbeats 8000000 in
set_option maxRecDepth 100000 in
theorem seek_walk (zs : List Int) (sv : Value) (x : Int) (w : World) (hl0 : zs.length ≤ maxLen) (hx0 : (Lit.int .i64 x).wf = true) (hI : Ints w.heap.size w sv zs) :
    Calls Try.prog 10 #[sv, .int .i64 x] w fun e w' => e = .returned (.bool true) ∧ Below w.heap.size w w' := by
  have CG := Lib.hid (great_any [zs] (by unfold maxLen; simp) _ _ (IntsL.one hI))
  have B0 : Hid (Below w.heap.size w (w.alloc (.cells #[sv] 22))) := Lib.hid ((Below.refl _ _).alloc (Nat.le_refl _) _)
  have CA := Lib.hid awake_any
  clear hx0
  cases hg : greatB [zs] with
  | true =>
    rw [hg] at CG
    clear hg
    obtain ⟨a, cap, rfl, _⟩ := hI
    go_enter Try.func10, Try.ntmps10
    go_wp2_with fail
    refine CG.out.mono ?_
    rintro e w0 ⟨rfl, rfl⟩
    go_wp2_with fail
    refine (CA.out _).mono ?_
    rintro e w2 ⟨rfl, hb2⟩
    have B2 := Lib.hid (B0.out.trans (hb2.mono B0.out.size))
    clear hb2
    go_wp2
    go_ret
    exact ⟨rfl, B2.out⟩
  | false =>
    obtain ⟨_, hle⟩ := great_no hg
    have hl : zs.length ≤ 40 := hle zs (by simp)
    rw [hg] at CG
    have C1 : Hid (∀ v, Below w.heap.size w v → Calls Try.prog 14 #[sv] v fun e w' => e = .returned (.int .i64 (chk zs)) ∧ Below v.heap.size v w') := Lib.hid fun v hb => gCheck_any zs (by omega) sv v (hI.onto hb)
    have C2 : Hid (∀ v, Below w.heap.size w v → Calls Try.prog 23 #[sv, .int .i64 x] v fun e w' => e = .returned (.int .i64 (seekO zs x : Nat)) ∧ Below v.heap.size v w') := Lib.hid fun v hb => gSeek_any zs (by omega) sv x v (hI.onto hb)
    by_cases h0 : chk zs = 0
    · rw [seekO_ok h0] at C2
      have hXa := hI.at
      obtain ⟨a, cap, rfl, hcx⟩ := hXa
      have HX := Lib.hid hcx
      clear hcx hI
      have hkl := seekN_le zs x
      obtain ⟨k, hk⟩ : ∃ k, seekN zs x = k := ⟨_, rfl⟩
      rw [hk] at C2 hkl
      have hcc := fun j (hj : j < zs.length) v (hb : Below w.heap.size w v) => hb
      clear hcc
      by_cases hk0 : k = 0
      · by_cases hlast : zs.length = 0
        · clear HX
          rw [h0] at C1
          clear h0 hg hle hl0
          subst hk0
          have e0 : ((0 : Nat) : Int) = 0 := rfl
          rw [e0] at C2
          clear e0
          have zl : (zs.length : Int) = 0 := by omega
          have zn : zs = [] := List.length_eq_zero_iff.1 hlast
          subst zn
          clear hlast zl hk hkl
          clear hl
          go_enter Try.func10, Try.ntmps10
          go_wp2_with fail
          refine CG.out.mono ?_
          rintro e w0 ⟨rfl, rfl⟩
          go_wp2_with fail
          refine (C1.out _ B0.out).mono ?_
          rintro e w1 ⟨rfl, hb1⟩
          have B1 := Lib.hid (B0.out.trans (hb1.mono B0.out.size))
          clear hb1
          go_wp2_with fail
          refine (C2.out _ B1.out).mono ?_
          rintro e w2 ⟨rfl, hb2⟩
          have B2 := Lib.hid (B1.out.trans (hb2.mono B1.out.size))
          clear hb2
          go_wp2_with fail
          refine (CA.out _).mono ?_
          rintro e w3 ⟨rfl, hb3⟩
          have B3 := Lib.hid (B2.out.trans (hb3.mono B2.out.size))
          clear hb3
          go_wp2
          go_ret
          exact ⟨rfl, B3.out⟩
        · have hk2 : k < zs.length := by omega
          have lk : x ≤ zs[k]?.getD 0 := by
            have := seekN_ge (chk_zero.1 h0).2 (x := x) hk2 (by omega)
            rwa [List.getElem?_eq_getElem hk2]
          obtain ⟨b, off, rfl, hb, hc⟩ := HX.out (List.ne_nil_of_length_pos (by omega))
          have hck := hc k hk2
          clear hc
          clear HX
          generalize zs[k]?.getD 0 = yk at *
          rw [h0] at C1
          clear h0 hg hle hl0
          subst hk0
          have e0 : ((0 : Nat) : Int) = 0 := rfl
          rw [e0] at C2
          clear e0
          have hpos : (0 : Int) < zs.length := by omega
          have g6 : decide ((zs.length : Int) < 0) = false := decide_eq_false (by omega)
          have gz : ((0 : Int) == (zs.length : Int)) = false := by rw [beq_eq_false_iff_ne]; omega
          have lk1 : ¬ yk < x := by omega
          clear hlast hk hkl hk2
          clear hl
          go_enter Try.func10, Try.ntmps10
          go_wp2_with fail
          refine CG.out.mono ?_
          rintro e w0 ⟨rfl, rfl⟩
          go_wp2_with fail
          refine (C1.out _ B0.out).mono ?_
          rintro e w1 ⟨rfl, hb1⟩
          have B1 := Lib.hid (B0.out.trans (hb1.mono B0.out.size))
          clear hb1
          go_wp2_with fail
          refine (C2.out _ B1.out).mono ?_
          rintro e w2 ⟨rfl, hb2⟩
          have B2 := Lib.hid (B1.out.trans (hb2.mono B1.out.size))
          clear hb2
          have hck2 := (B2.out.cell (p := ⟨b, off + 0, none⟩) hb).trans hck
          rw [Nat.add_zero] at hck2
          go_wp2_with fail
          refine (CA.out _).mono ?_
          rintro e w3 ⟨rfl, hb3⟩
          have B3 := Lib.hid (B2.out.trans (hb3.mono B2.out.size))
          clear hb3
          go_wp2
          go_ret
          exact ⟨rfl, B3.out⟩
      · obtain ⟨m, hkm⟩ : ∃ m, k = m + 1 := ⟨k - 1, by omega⟩
        by_cases hlast : k = zs.length
        · have hm : m < zs.length := by omega
          have lm : zs[m]?.getD 0 < x := by
            have := seekN_lt (l := zs) (x := x) (k := m) hm (by omega)
            rwa [List.getElem?_eq_getElem hm]
          obtain ⟨b, off, rfl, hb, hc⟩ := HX.out (List.ne_nil_of_length_pos (by omega))
          have hcm := hc m hm
          clear hc
          clear HX
          generalize zs[m]?.getD 0 = ym at *
          rw [h0] at C1
          clear h0 hg hle hl0
          subst hlast
          have g1 : ((zs.length : Int) == 0) = false := by rw [beq_eq_false_iff_ne]; omega
          have g3 : decide ((zs.length : Int) < 0) = false := decide_eq_false (by omega)
          have g4 : RowKit.wrap64 ((zs.length : Int) - 1) = (m : Int) := by unfold RowKit.wrap64; omega
          have hmi : (m : Int) < zs.length := by omega
          have g5 : decide ((zs.length : Int) < (zs.length : Int)) = false := decide_eq_false (by omega)
          have gl : ((zs.length : Int) == (zs.length : Int)) = true := by simp
          clear hk0 hk hkl hkm
          clear hl
          go_enter Try.func10, Try.ntmps10
          go_wp2_with fail
          refine CG.out.mono ?_
          rintro e w0 ⟨rfl, rfl⟩
          go_wp2_with fail
          refine (C1.out _ B0.out).mono ?_
          rintro e w1 ⟨rfl, hb1⟩
          have B1 := Lib.hid (B0.out.trans (hb1.mono B0.out.size))
          clear hb1
          go_wp2_with fail
          refine (C2.out _ B1.out).mono ?_
          rintro e w2 ⟨rfl, hb2⟩
          have B2 := Lib.hid (B1.out.trans (hb2.mono B1.out.size))
          clear hb2
          have hcm2 := (B2.out.cell (p := ⟨b, off + m, none⟩) hb).trans hcm
          go_wp2_with fail
          refine (CA.out _).mono ?_
          rintro e w3 ⟨rfl, hb3⟩
          have B3 := Lib.hid (B2.out.trans (hb3.mono B2.out.size))
          clear hb3
          go_wp2
          go_ret
          exact ⟨rfl, B3.out⟩
        · have hm : m < zs.length := by omega
          have lm : zs[m]?.getD 0 < x := by
            have := seekN_lt (l := zs) (x := x) (k := m) hm (by omega)
            rwa [List.getElem?_eq_getElem hm]
          have hk2 : k < zs.length := by omega
          have lk : x ≤ zs[k]?.getD 0 := by
            have := seekN_ge (chk_zero.1 h0).2 (x := x) hk2 (by omega)
            rwa [List.getElem?_eq_getElem hk2]
          obtain ⟨b, off, rfl, hb, hc⟩ := HX.out (List.ne_nil_of_length_pos (by omega))
          have hcm := hc m hm
          have hck := hc k hk2
          clear hc
          clear HX
          generalize zs[m]?.getD 0 = ym at *
          generalize zs[k]?.getD 0 = yk at *
          rw [h0] at C1
          clear h0 hg hle hl0
          have g1 : ((k : Int) == 0) = false := by rw [beq_eq_false_iff_ne]; omega
          have g3 : decide ((k : Int) < 0) = false := decide_eq_false (by omega)
          have g4 : RowKit.wrap64 ((k : Int) - 1) = (m : Int) := by unfold RowKit.wrap64; omega
          have hmi : (m : Int) < zs.length := by omega
          have g5 : decide ((zs.length : Int) < (k : Int)) = false := decide_eq_false (by omega)
          have gl : ((k : Int) == (zs.length : Int)) = false := by rw [beq_eq_false_iff_ne]; omega
          have hki : (k : Int) < zs.length := by omega
          have lk1 : ¬ yk < x := by omega
          clear hlast hk hkl hk0 hkm hk2
          clear hl
          go_enter Try.func10, Try.ntmps10
          go_wp2_with fail
          refine CG.out.mono ?_
          rintro e w0 ⟨rfl, rfl⟩
          go_wp2_with fail
          refine (C1.out _ B0.out).mono ?_
          rintro e w1 ⟨rfl, hb1⟩
          have B1 := Lib.hid (B0.out.trans (hb1.mono B0.out.size))
          clear hb1
          go_wp2_with fail
          refine (C2.out _ B1.out).mono ?_
          rintro e w2 ⟨rfl, hb2⟩
          have B2 := Lib.hid (B1.out.trans (hb2.mono B1.out.size))
          clear hb2
          have hcm2 := (B2.out.cell (p := ⟨b, off + m, none⟩) hb).trans hcm
          have hck2 := (B2.out.cell (p := ⟨b, off + k, none⟩) hb).trans hck
          go_wp2_with fail
          refine (CA.out _).mono ?_
          rintro e w3 ⟨rfl, hb3⟩
          have B3 := Lib.hid (B2.out.trans (hb3.mono B2.out.size))
          clear hb3
          go_wp2
          go_ret
          exact ⟨rfl, B3.out⟩
    · have hne : (chk zs != 0) = true := bne_yes h0
      clear h0 C2 hl hle
      generalize chk zs = c at *
      obtain ⟨a, cap, rfl, _⟩ := hI
      go_enter Try.func10, Try.ntmps10
      go_wp2_with fail
      refine CG.out.mono ?_
      rintro e w0 ⟨rfl, rfl⟩
      go_wp2_with fail
      refine (C1.out _ B0.out).mono ?_
      rintro e w1 ⟨rfl, hb1⟩
      have B1 := Lib.hid (B0.out.trans (hb1.mono B0.out.size))
      clear hb1
      go_wp2_with fail
      refine (CA.out _).mono ?_
      rintro e w2 ⟨rfl, hb2⟩
      have B2 := Lib.hid (B1.out.trans (hb2.mono B1.out.size))
      clear hb2
      go_wp2
      go_ret
      exact ⟨rfl, B2.out⟩
end Go.Proofs.Ytejnmjaclhmelaa.Po
