/- Layer 12: the program's countValues. -/
import Derived.Test.YtffnopdpndpngaaMa
import Derived.Test.YtffnopdpndpngaaMLh
set_option linter.unusedVariables false
set_option linter.unusedSimpArgs false
namespace Go.Proofs.Ytffnopdpndpngaa.Lh
open Go.RowKit
theorem chkB_neg (p : Int) : ∀ l : List B, chkB p none l = chkB p (some (-1)) l
  | [] => rfl
  | b :: r => by
    unfold chkB
    by_cases h : b.1 < 0 ∨ topI p < b.1 ∨ b.2 < 1 ∨ 1048576 < b.2
    · rw [if_pos h, if_pos h]
    · rw [if_neg h, if_neg h]
      have e : decide (b.1 ≤ -1) = false := decide_eq_false (by omega)
      simp only [e]
theorem chkB_step {p t : Int} {l : List B} {k : Nat} (h : k < l.length) : chkB p (some t) (l.drop k) = if l[k].1 < 0 ∨ topI p < l[k].1 ∨ l[k].2 < 1 ∨ 1048576 < l[k].2 then 2 else if l[k].1 ≤ t then 9 else chkB p (some l[k].1) (l.drop (k + 1)) := by
  rw [List.drop_eq_getElem_cons h, chkB]
  by_cases g : l[k].1 ≤ t
  · have e : decide (l[k].1 ≤ t) = true := decide_eq_true g
    simp only [e, if_pos g, if_true]
  · have e : decide (l[k].1 ≤ t) = false := decide_eq_false g
    simp only [e, if_neg g]
    simp
theorem tot_succ {l : List B} {k : Nat} (h : k < l.length) : tot (l.take (k + 1)) = tot (l.take k) + l[k].2 := by
  unfold tot
  rw [W_take h, Int.mul_one]
def cntO (p : Int) (l : List B) : Value := if chkB p none l = 0 then .tuple #[.int .i64 (tot l), .int .i64 0] else .tuple #[.int .i64 0, .int .i64 (chkB p none l : Nat)]
set_option maxHeartbeats 4000000 in
theorem count_any (p c s mn mx : Int) (l : List B) (hp : 0 ≤ p ∧ p ≤ 8) (hlen : l.length ≤ 500) (A : Option Addr) (q : Nat) (w : World) (hL : LS w w.heap.size A l) :
    Calls Try.prog 45 #[hV p c s mn mx A l.length q] w fun e w' => e = .returned (cntO p l) ∧ Below w.heap.size w w' := by
  have HC2 := Lib.hid (chkB_neg p l)
  have HD := Lib.hid (fun i => pBounds_any p i)
  have B0 : Hid (Below w.heap.size w (w.alloc (.cells #[.int .i64 p, .int .i64 c, .int .i64 s, .int .i64 mn, .int .i64 mx, .slice A l.length q] 29))) := (Below.refl _ w).alloc (Nat.le_refl _) _
  have C0 := Lib.hid (HC.new w 29 p c s mn mx A l.length q)
  have L0 : Hid (LS (w.alloc (.cells #[.int .i64 p, .int .i64 c, .int .i64 s, .int .i64 mn, .int .i64 mx, .slice A l.length q] 29)) w.heap.size A l) := hL.below B0.out
  have Z0 : Hid ((w.alloc (.cells #[.int .i64 p, .int .i64 c, .int .i64 s, .int .i64 mn, .int .i64 mx, .slice A l.length q] 29)).heap.size = w.heap.size + 1) := by show _ = _; simp
  clear hL
  go_enter Try.func45, Try.ntmps45
  go_wp2
  generalize w.alloc (.cells #[.int .i64 p, .int .i64 c, .int .i64 s, .int .i64 mn, .int .i64 mx, .slice A l.length q] 29) = W1 at *
  go_loopw [4, 5, 14] (fun vc vb vi wr => ∃ k : Nat, ∃ o t : Int, k ≤ l.length ∧ vc = .int .i64 o ∧ vb = .int .i64 t ∧ vi = .int .i64 k ∧ Hid (o = tot (l.take k) ∧ 0 ≤ o ∧ o ≤ 1048576 * k) ∧ Hid (chkB p none l = chkB p (some t) (l.drop k)) ∧ Hid (Below (w.heap.size + 1) W1 wr)) (fun _ _ vi _ => l.length - (intOf vi).toNat)
  case atStart => exact ⟨0, 0, -1, by omega, rfl, rfl, rfl, ⟨rfl, by omega, by omega⟩, HC2, Below.refl _ _⟩
  case round =>
    obtain ⟨k, o, t, hk, rfl, rfl, rfl, HO, HT, HB⟩ := hrel
    obtain ⟨k0, k1, k2, k3, k4, k5⟩ := C0.out.keep (Nat.lt_succ_self _) HB.out
    clear k1 k2 k3 k4 k5
    by_cases hlt : k < l.length
    · obtain ⟨bl, off, rfl, hbl, c1', c2'⟩ := L0.out.at_ hlt
      have c1 := (HB.out.cell (p := ⟨bl, off + k * 2, none⟩) (Nat.lt_succ_of_lt hbl)).trans c1'
      have c2 := (HB.out.cell (p := ⟨bl, off + k * 2 + 1, none⟩) (Nat.lt_succ_of_lt hbl)).trans c2'
      have hsz : w.heap.size + 1 ≤ wr.heap.size := by have := HB.out.size; rw [Z0.out] at this; exact this
      have hbw : bl < wr.heap.size := by omega
      have hgw : w.heap.size < wr.heap.size := by omega
      clear c1' c2'
      have hst := chkB_step (p := p) (t := t) hlt
      rw [← HT.out] at hst
      have hts := tot_succ hlt
      rw [← HO.out.1] at hts
      have D := Lib.hid (HD.out l[k].1)
      have o1 := HO.out.2.1
      have o2 := HO.out.2.2
      generalize l[k].1 = x1 at *
      generalize l[k].2 = x2 at *
      unfold bndOut at D
      have hcopy : (wr.alloc (.cells #[.int .i64 x1, .int .i64 x2] 65)).heap.size = wr.heap.size + 1 := by simp
      have q0 : (wr.alloc (.cells #[.int .i64 x1, .int .i64 x2] 65)).cell? ⟨wr.heap.size, 0, none⟩ = some (.int .i64 x1) := by simp
      have q1 : (wr.alloc (.cells #[.int .i64 x1, .int .i64 x2] 65)).cell? ⟨wr.heap.size, 1, none⟩ = some (.int .i64 x2) := by simp
      have Q0 := Lib.hid q0
      have Q1 := Lib.hid q1
      have HBA : Hid (Below (w.heap.size + 1) W1 (wr.alloc (.cells #[.int .i64 x1, .int .i64 x2] 65))) := HB.out.alloc hsz _
      clear q0 q1 hcopy HO HT
      by_cases hx : x1 < 0 ∨ topI p < x1
      · rw [if_pos (by omega)] at D
        rw [if_pos (by omega)] at hst
        have HE : Hid (cntO p l = .tuple #[.int .i64 0, .int .i64 2]) := by show _ = _; unfold cntO; rw [hst]; rfl
        clear hst hts
        go_wp2_with (go_at_call 14; (with_reducible refine (D.out _).mono ?_); rintro e w1 ⟨rfl, hb1⟩; have HB1 := Lib.hid (HBA.out.trans (hb1.mono (by simp; omega))); have q0 := (hb1.cell (p := ⟨wr.heap.size, 0, none⟩) (by simp)).trans Q0.out; have q1 := (hb1.cell (p := ⟨wr.heap.size, 1, none⟩) (by simp)).trans Q1.out; clear hb1)
        go_ret2
        exact ⟨by rw [HE.out]; rfl, B0.out.trans (HB1.out.mono (by omega))⟩
      rw [if_neg (by omega)] at D
      by_cases hy : x2 < 1 ∨ 1048576 < x2
      · rw [if_pos (by omega)] at hst
        have HE : Hid (cntO p l = .tuple #[.int .i64 0, .int .i64 2]) := by show _ = _; unfold cntO; rw [hst]; rfl
        clear hst hts
        by_cases hy1 : x2 < 1
        · clear hy
          go_wp2_with (go_at_call 14; (with_reducible refine (D.out _).mono ?_); rintro e w1 ⟨rfl, hb1⟩; have HB1 := Lib.hid (HBA.out.trans (hb1.mono (by simp; omega))); have q0 := (hb1.cell (p := ⟨wr.heap.size, 0, none⟩) (by simp)).trans Q0.out; have q1 := (hb1.cell (p := ⟨wr.heap.size, 1, none⟩) (by simp)).trans Q1.out; clear hb1)
          go_ret2
          exact ⟨by rw [HE.out]; rfl, B0.out.trans (HB1.out.mono (by omega))⟩
        · have hy2 : 1048576 < x2 := by omega
          clear hy
          go_wp2_with (go_at_call 14; (with_reducible refine (D.out _).mono ?_); rintro e w1 ⟨rfl, hb1⟩; have HB1 := Lib.hid (HBA.out.trans (hb1.mono (by simp; omega))); have q0 := (hb1.cell (p := ⟨wr.heap.size, 0, none⟩) (by simp)).trans Q0.out; have q1 := (hb1.cell (p := ⟨wr.heap.size, 1, none⟩) (by simp)).trans Q1.out; clear hb1)
          go_ret2
          exact ⟨by rw [HE.out]; rfl, B0.out.trans (HB1.out.mono (by omega))⟩
      have hy1 : ¬ x2 < 1 := by omega
      have hy2 : ¬ 1048576 < x2 := by omega
      rw [if_neg (by omega)] at hst
      clear hy hx
      by_cases hz : x1 ≤ t
      · rw [if_pos hz] at hst
        have HE : Hid (cntO p l = .tuple #[.int .i64 0, .int .i64 9]) := by show _ = _; unfold cntO; rw [hst]; rfl
        clear hst hts
        go_wp2_with (go_at_call 14; (with_reducible refine (D.out _).mono ?_); rintro e w1 ⟨rfl, hb1⟩; have HB1 := Lib.hid (HBA.out.trans (hb1.mono (by simp; omega))); have q0 := (hb1.cell (p := ⟨wr.heap.size, 0, none⟩) (by simp)).trans Q0.out; have q1 := (hb1.cell (p := ⟨wr.heap.size, 1, none⟩) (by simp)).trans Q1.out; clear hb1)
        go_ret2
        exact ⟨by rw [HE.out]; rfl, B0.out.trans (HB1.out.mono (by omega))⟩
      · rw [if_neg hz] at hst
        have HST := Lib.hid hst
        have HTS := Lib.hid hts
        clear hst hts
        go_wp2_with (go_at_call 14; (with_reducible refine (D.out _).mono ?_); rintro e w1 ⟨rfl, hb1⟩; have HB1 := Lib.hid (HBA.out.trans (hb1.mono (by simp; omega))); have q0 := (hb1.cell (p := ⟨wr.heap.size, 0, none⟩) (by simp)).trans Q0.out; have q1 := (hb1.cell (p := ⟨wr.heap.size, 1, none⟩) (by simp)).trans Q1.out; clear hb1)
        go_roundw
        case rel => exact ⟨k + 1, _, _, by omega, rfl, rfl, by go_num, by show _ ∧ _ ∧ _; rw [HTS.out]; refine ⟨?_, ?_, ?_⟩ <;> go_num, HST.out, HB1⟩
        case measure => simp [intOf]; omega
    · obtain rfl : k = l.length := by omega
      have HE : Hid (cntO p l = .tuple #[.int .i64 o, .int .i64 0]) := by
        show _ = _
        have h1 := HT.out
        have h2 := HO.out.1
        rw [List.drop_length, chkB] at h1
        rw [List.take_length] at h2
        unfold cntO
        rw [if_pos h1, h2]
      clear HO HT
      go_wp2
      go_ret2
      exact ⟨by rw [HE.out]; rfl, B0.out.trans (HB.out.mono (by omega))⟩
end Go.Proofs.Ytffnopdpndpngaa.Lh
