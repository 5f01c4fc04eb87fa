/- Layer 12: the reference's Check. -/
import Derived.Test.YtffnopdpndpngaaLiH
import Derived.Test.YtffnopdpndpngaaMe
set_option linter.unusedVariables false
set_option linter.unusedSimpArgs false
set_option maxRecDepth 100000
namespace Go.Proofs.Ytffnopdpndpngaa.Lh
open Go.RowKit
theorem fits_any (p c s mn mx : Int) (l : List B) (hp : 0 ≤ p ∧ p ≤ 8) (hk : chkB p none l = 0) (ht : tot l ≤ 1048576) (hlen : l.length ≤ 500) (A : Option Addr) (q : Nat) (w : World) (hL : LS w w.heap.size A l) :
    Calls Try.prog 47 #[hV p c s mn mx A l.length q, .int .i64 (tot l)] w fun e w' => e = .returned (.bool (fitsH ⟨p, c, s, mn, mx, l⟩ (tot l))) ∧ Below w.heap.size w w' := by
  obtain ⟨⟨h1, h2, h3⟩, _⟩ := chkB_iff.1 hk
  cases l with
  | nil => exact fits_none p c s mn mx [] A q w
  | cons b r =>
    have hn : tot (b :: r) ≠ 0 := by
      obtain ⟨g1, g2⟩ := pos_cons.mp h2
      have := tot_nonneg g2
      have := (show tot (b :: r) = b.2 + tot r by unfold tot; simp only [W, Int.mul_one])
      omega
    exact fits_some p c s mn mx b r _ hn hp h1 h2 ht (fun x hx => ⟨(h3 x hx).1, (h3 x hx).2.1⟩) hlen A q w hL
theorem top_idx (p : Int) : ixI p 1099511627776 = topI p := rfl
theorem wrap_nat {j : Nat} (h : j < 1000000000000000) : wrap64 (j : Int) = j := by
  unfold wrap64
  omega
theorem wrap_pred {j : Nat} (h : j < 1000000000000000) : wrap64 (((j + 1 : Nat) : Int) - 1) = j := by
  have e : (((j + 1 : Nat) : Int) - 1) = j := by omega
  rw [e]
  exact wrap_nat h
theorem i64_nat {j : Nat} (h : j < 1000000000000000) : IntKind.i64.wrap (j : Int) = j := IntWalk.i64_in _ (by omega)
theorem i64_pred {j : Nat} (h : j < 1000000000000000) : IntKind.i64.wrap (((j + 1 : Nat) : Int) - 1) = j := by
  have e : (((j + 1 : Nat) : Int) - 1) = j := by omega
  rw [e]
  exact i64_nat h
set_option maxHeartbeats 8000000 in
theorem refCheck_any (p c s mn mx : Int) (l : List B) (hlen : l.length ≤ 140737488355328) (A : Option Addr) (q : Nat) (w : World) (hL : LS w w.heap.size A l) :
    Calls Try.prog 26 #[hV p c s mn mx A l.length q] w fun e w' => e = .returned (.int .i64 (chk ⟨p, c, s, mn, mx, l⟩ : Nat)) ∧ Below w.heap.size w w' := by
  by_cases hp0 : p < 0
  · have HE : Hid (chk ⟨p, c, s, mn, mx, l⟩ = 2) := if_pos (.inl hp0)
    go_enter Try.func26, Try.ntmps26
    go_wp2
    go_ret
    rw [HE.out]
    exact ⟨rfl, (Below.refl _ _).alloc (Nat.le_refl _) _⟩
  by_cases hp8 : 8 < p
  · have HE : Hid (chk ⟨p, c, s, mn, mx, l⟩ = 2) := if_pos (.inr hp8)
    go_enter Try.func26, Try.ntmps26
    go_wp2
    go_ret
    rw [HE.out]
    exact ⟨rfl, (Below.refl _ _).alloc (Nat.le_refl _) _⟩
  by_cases hl5 : 500 < l.length
  · have HE : Hid (chk ⟨p, c, s, mn, mx, l⟩ = 4) := by show _ = _; unfold chk; rw [if_neg (show ¬ (p < 0 ∨ 8 < p) by omega), if_pos hl5]
    go_enter Try.func26, Try.ntmps26
    go_wp2
    go_ret
    rw [HE.out]
    exact ⟨rfl, (Below.refl _ _).alloc (Nat.le_refl _) _⟩
  have hp : 0 ≤ p ∧ p ≤ 8 := by omega
  have HE0 : Hid (chk ⟨p, c, s, mn, mx, l⟩ = if chkB p none l ≠ 0 then chkB p none l else if 1048576 < tot l then 4 else if fitsH ⟨p, c, s, mn, mx, l⟩ (tot l) = true then 0 else 10) := by show _ = _; unfold chk; rw [if_neg (show ¬ (p < 0 ∨ 8 < p) by omega), if_neg hl5]
  have IX := Lib.hid (fun w => index_I p 1099511627776 hp (by omega) w)
  rw [top_idx] at IX
  have HC2 := Lib.hid (chkB_neg p l)
  obtain ⟨W1, hW1⟩ : ∃ W1, W1 = w.alloc (.cells #[.int .i64 p, .int .i64 c, .int .i64 s, .int .i64 mn, .int .i64 mx, .slice A l.length q] 29) := ⟨_, rfl⟩
  have B0 : Hid (Below w.heap.size w W1) := by show Below _ _ _; rw [hW1]; exact (Below.refl _ w).alloc (Nat.le_refl _) _
  have C0 : Hid (HC W1 w.heap.size p c s mn mx A l.length q) := by show HC _ _ _ _ _ _ _ _ _ _; rw [hW1]; exact HC.new w 29 p c s mn mx A l.length q
  have L0 : Hid (LS W1 w.heap.size A l) := hL.below B0.out
  have Z0 : Hid (W1.heap.size = w.heap.size + 1) := by show _ = _; rw [hW1]; simp
  have HW1 := Lib.hid hW1.symm
  have LL : Hid (∀ V, Below (w.heap.size + 1) W1 V → LS V V.heap.size A l) := Lib.hid fun V h => ((hL.below B0.out).below (h.mono (by omega))).more (by have h1 := h.size; rw [Z0.out] at h1; omega)
  clear hL hW1
  go_enter Try.func26, Try.ntmps26
  go_wp2
  rw [HW1.out]
  clear HW1
  go_loopw [3, 4] (fun vc vi wr => ∃ k : Nat, ∃ o t : Int, k ≤ l.length ∧ vc = .int .i64 o ∧ vi = .int .i64 k ∧ Hid (o = tot (l.take k) ∧ 0 ≤ o ∧ o ≤ 1048576 * k) ∧ Hid (chkB p none l = chkB p (some t) (l.drop k)) ∧ Hid ((k = 0 ∧ t = -1) ∨ ∃ (j : Nat) (hj : j < l.length), k = j + 1 ∧ t = l[j].1) ∧ Hid (Below (w.heap.size + 1) W1 wr)) (fun _ vi _ => l.length - (intOf vi).toNat)
  case atStart => exact ⟨0, 0, -1, by omega, rfl, rfl, ⟨rfl, by omega, by omega⟩, HC2, .inl ⟨rfl, rfl⟩, Below.refl _ _⟩
  case round =>
    obtain ⟨k, o, t, hk, rfl, rfl, HO, HT, HPV, HB⟩ := hrel
    obtain ⟨k0, k1, k2, k3, k4, k5⟩ := C0.out.keep (Nat.lt_succ_self _) HB.out
    by_cases hlt : k < l.length
    · obtain ⟨bl, off, hA, hbl, c1', c2'⟩ := L0.out.at_ hlt
      have hA2 := Lib.hid hA
      subst hA
      have c1 := (HB.out.cell (p := ⟨bl, off + k * 2, none⟩) (Nat.lt_succ_of_lt hbl)).trans c1'
      have c2 := (HB.out.cell (p := ⟨bl, off + k * 2 + 1, none⟩) (Nat.lt_succ_of_lt hbl)).trans c2'
      have hsz : w.heap.size + 1 ≤ wr.heap.size := by have := HB.out.size; rw [Z0.out] at this; exact this
      have hbw : bl < wr.heap.size := by omega
      have hgw : w.heap.size < wr.heap.size := by omega
      clear c1' c2' k1 k2 k3 k4
      have hst := chkB_step (p := p) (t := t) hlt
      rw [← HT.out] at hst
      have hts := tot_succ hlt
      rw [← HO.out.1] at hts
      have o1 := HO.out.2.1
      have o2 := HO.out.2.2
      have HPC : Hid (∀ (j : Nat) (hj : j < l.length), wr.cell? ⟨bl, off + j * 2, none⟩ = some (.int .i64 l[j].1)) := Lib.hid fun j hj => by
        obtain ⟨b', o', e', _, g1, _⟩ := L0.out.at_ hj
        injection e' with e'
        injection e' with e1 e2
        subst e1 e2
        exact (HB.out.cell (p := ⟨bl, off + j * 2, none⟩) (Nat.lt_succ_of_lt hbl)).trans g1
      generalize hx1 : l[k].1 = x1 at *
      generalize hx2 : l[k].2 = x2 at *
      have HX1 := Lib.hid hx1
      clear hx1 hx2
      have HBA : Hid (∀ n, Below (w.heap.size + 1) W1 ((wr.alloc (.cells #[.int .i64 x1, .int .i64 x2] 65)).drewN n)) := Lib.hid fun n => bel_drewN (HB.out.alloc hsz _) n
      clear HO HT
      by_cases hx0 : x1 < 0
      · skip
        rw [if_pos (.inl hx0)] at hst
        have HE : Hid (chk ⟨p, c, s, mn, mx, l⟩ = 2) := by show _ = _; rw [HE0.out, hst]; rfl
        clear hst hts HPV HPC
        go_wp2
        go_quiet ((go_at_call 40; with_reducible exact Calls.quiet_of_same (IX.out _)))
        go_wp2
        go_ret
        rw [HE.out]
        exact ⟨rfl, B0.out.trans ((HBA.out _).mono (by omega))⟩
      have hd0 : decide (x1 < 0) = false := by simpa using hx0
      by_cases hxt : topI p < x1
      · skip
        rw [if_pos (.inr (.inl hxt))] at hst
        have HE : Hid (chk ⟨p, c, s, mn, mx, l⟩ = 2) := by show _ = _; rw [HE0.out, hst]; rfl
        clear hst hts HPV HPC
        go_wp2
        go_quiet ((go_at_call 40; with_reducible exact Calls.quiet_of_same (IX.out _)))
        go_wp2
        go_ret
        rw [HE.out]
        exact ⟨rfl, B0.out.trans ((HBA.out _).mono (by omega))⟩
      have hdt : decide (topI p < x1) = false := by simpa using hxt
      by_cases hy1 : x2 < 1
      · skip
        rw [if_pos (.inr (.inr (.inl hy1)))] at hst
        have HE : Hid (chk ⟨p, c, s, mn, mx, l⟩ = 2) := by show _ = _; rw [HE0.out, hst]; rfl
        clear hst hts HPV HPC
        go_wp2
        go_quiet ((go_at_call 40; with_reducible exact Calls.quiet_of_same (IX.out _)))
        go_wp2
        go_ret
        rw [HE.out]
        exact ⟨rfl, B0.out.trans ((HBA.out _).mono (by omega))⟩
      have hd1 : decide (x2 < 1) = false := by simpa using hy1
      by_cases hy2 : 1048576 < x2
      · skip
        rw [if_pos (.inr (.inr (.inr hy2)))] at hst
        have HE : Hid (chk ⟨p, c, s, mn, mx, l⟩ = 2) := by show _ = _; rw [HE0.out, hst]; rfl
        clear hst hts HPV HPC
        go_wp2
        go_quiet ((go_at_call 40; with_reducible exact Calls.quiet_of_same (IX.out _)))
        go_wp2
        go_ret
        rw [HE.out]
        exact ⟨rfl, B0.out.trans ((HBA.out _).mono (by omega))⟩
      have hd2 : decide (1048576 < x2) = false := by simpa using hy2
      rw [if_neg (by omega)] at hst
      have hB1 := HBA.out 0
      by_cases hk0 : k = 0
      · have ht : t = -1 := by
          rcases HPV.out with ⟨_, h⟩ | ⟨j, _, h, _⟩
          · exact h
          · omega
        rw [if_neg (by omega)] at hst
        have HST := Lib.hid hst
        have HTS := Lib.hid hts
        clear hst hts ht HPC HPV hB1
        subst hk0
        simp only [Nat.zero_mul, Nat.add_zero] at c1 c2
        go_wp2
        go_quiet ((go_at_call 40; with_reducible exact Calls.quiet_of_same (IX.out _)))
        go_wp2
        go_quiet (fail)
        go_wp2
        go_roundw
        case rel => exact ⟨0 + 1, _, _, by omega, rfl, by go_num, by show _ ∧ _ ∧ _; rw [HTS.out]; refine ⟨?_, ?_, ?_⟩ <;> go_num, HST.out, .inr ⟨0, by omega, rfl, HX1.out.symm⟩, (by first | exact HBA.out _ | (have := HBA.out 0; exact bel_drewN (bel_drewN (HB.out.alloc hsz _) _) _))⟩
        case measure => simp [intOf]; omega
      · obtain ⟨j, hj, rfl, rfl⟩ : ∃ (j : Nat) (hj : j < l.length), k = j + 1 ∧ t = l[j].1 := by
          rcases HPV.out with ⟨h, _⟩ | h
          · exact (hk0 h).elim
          · exact h
        have cj := HPC.out j hj
        have hjB : j < 1000000000000000 := by omega
        have hjj : ((j + 1 : Nat) : Int) - 1 = j := by omega
        have hjl : (j : Int) < l.length := by omega
        have hj1 : (0 : Int) < ((j + 1 : Nat) : Int) := by omega
        have hj2 : (0 : Int) < (j : Int) + 1 := by omega
        have hj3 : j + 1 + 1 ≤ l.length := by omega
        clear HPC HPV hB1
        generalize hpv : l[j].1 = pv at *
        clear hpv
        by_cases hz : x1 ≤ pv
        · rw [if_pos hz] at hst
          have HE : Hid (chk ⟨p, c, s, mn, mx, l⟩ = 9) := by show _ = _; rw [HE0.out, hst]; rfl
          clear hst hts
          go_wp2
          go_quiet ((go_at_call 40; with_reducible exact Calls.quiet_of_same (IX.out _)))
          go_wp2
          have hwj := i64_pred hjB
          have hkj := i64_nat hjB
          go_quiet (fail)
          clear hwj hkj
          go_wp2
          go_ret
          rw [HE.out]
          exact ⟨rfl, B0.out.trans ((bel_drewN (HBA.out _) _).mono (by omega))⟩
        · rw [if_neg hz] at hst
          have HST := Lib.hid hst
          have HTS := Lib.hid hts
          clear hst hts
          go_wp2
          go_quiet ((go_at_call 40; with_reducible exact Calls.quiet_of_same (IX.out _)))
          go_wp2
          have hwj := i64_pred hjB
          have hkj := i64_nat hjB
          go_quiet (fail)
          clear hwj hkj
          go_wp2
          go_roundw
          case rel => exact ⟨j + 1 + 1, _, _, hj3, rfl, by go_num, by show _ ∧ _ ∧ _; rw [HTS.out]; refine ⟨?_, ?_, ?_⟩ <;> go_num, HST.out, .inr ⟨j + 1, by omega, rfl, HX1.out.symm⟩, (by exact HBA.out _)⟩
          case measure => simp [intOf]; omega
    · obtain rfl : k = l.length := by omega
      have h1 := HT.out
      have h2 := HO.out.1
      rw [List.drop_length, chkB] at h1
      rw [List.take_length] at h2
      have HE1 : Hid (chk ⟨p, c, s, mn, mx, l⟩ = if 1048576 < tot l then 4 else if fitsH ⟨p, c, s, mn, mx, l⟩ (tot l) = true then 0 else 10) := by show _ = _; rw [HE0.out, if_neg (by omega)]
      by_cases h4 : 1048576 < tot l
      · rw [if_pos h4] at HE1
        subst h2
        clear HO HT HPV
        generalize tot l = T at *
        go_wp2
        go_ret
        rw [HE1.out]
        exact ⟨rfl, B0.out.trans (HB.out.mono (by omega))⟩
      · rw [if_neg h4] at HE1
        have FI := Lib.hid (fun V h => fits_any p c s mn mx l hp h1 (by omega) (by omega) A q V h)
        subst h2
        clear HO HT HPV h1
        generalize fitsH ⟨p, c, s, mn, mx, l⟩ (tot l) = z at *
        generalize tot l = T at *
        cases z with
        | false =>
          go_wp2_with fail
          with_reducible refine (FI.out _ (LL.out _ HB.out)).mono ?_
          rintro e w2 ⟨rfl, hb⟩
          have HB2 := Lib.hid (HB.out.trans (hb.mono (by have := HB.out.size; rw [Z0.out] at this; exact this)))
          clear hb
          go_wp2
          go_ret
          rw [HE1.out]
          exact ⟨rfl, B0.out.trans (HB2.out.mono (by omega))⟩
        | true =>
          go_wp2_with fail
          with_reducible refine (FI.out _ (LL.out _ HB.out)).mono ?_
          rintro e w2 ⟨rfl, hb⟩
          have HB2 := Lib.hid (HB.out.trans (hb.mono (by have := HB.out.size; rw [Z0.out] at this; exact this)))
          clear hb
          go_wp2
          go_ret
          rw [HE1.out]
          exact ⟨rfl, B0.out.trans (HB2.out.mono (by omega))⟩
end Go.Proofs.Ytffnopdpndpngaa.Lh
