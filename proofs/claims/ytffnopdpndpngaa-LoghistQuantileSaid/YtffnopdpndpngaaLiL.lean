/- Layer 12: the reference's Quantile. -/
import Derived.Test.YtffnopdpndpngaaLiI
import Derived.Test.YtffnopdpndpngaaLiJ
import Derived.Test.YtffnopdpndpngaaMv
import Derived.Test.YtffnopdpndpngaaMw
import Derived.Deep.QuietTactic
import Derived.BigQuiet
set_option linter.unusedVariables false
set_option linter.unusedSimpArgs false
set_option maxRecDepth 100000
namespace Go.Proofs.Ytffnopdpndpngaa.Lh
open Go.RowKit
/-- The bucket of a rank, by partial sums. -/
theorem qI_at : ∀ {l : List B} {k : Nat} {r : Int} (hk : k < l.length), Pos l → tot (l.take k) < r → r ≤ tot (l.take (k + 1)) → qI r l = l[k].1
  | [], k, r, hk, _, _, _ => by simp at hk
  | [b], 0, r, _, _, _, _ => rfl
  | [b], k + 1, r, hk, _, _, _ => by simp at hk
  | b :: c :: t, 0, r, _, _, _, h2 => by
    have h3 : tot ((b :: c :: t).take 1) = b.2 := by
      show tot [b] = _
      unfold tot
      simp [W]
    rw [Nat.zero_add] at h2
    show qB r b (c :: t) = b.1
    exact if_pos (by omega)
  | b :: c :: t, k + 1, r, hk, hp, h1, h2 => by
    obtain ⟨p1, p2⟩ := pos_cons.mp hp
    have e1 : tot ((b :: c :: t).take (k + 1)) = b.2 + tot ((c :: t).take k) := by
      rw [List.take_succ_cons]
      exact tot_cons _ _
    have e2 : tot ((b :: c :: t).take (k + 1 + 1)) = b.2 + tot ((c :: t).take (k + 1)) := by
      rw [List.take_succ_cons]
      exact tot_cons _ _
    have h5 := tot_nonneg (pos_take p2 k)
    have ih := qI_at (l := c :: t) (k := k) (r := r - b.2) (by simpa using hk) p2 (by omega) (by omega)
    show qB r b (c :: t) = _
    rw [show qB r b (c :: t) = qB (r - b.2) c t from if_neg (by omega)]
    exact ih
theorem floor_small {x : Int} {D : Nat} (h : Rat.chk x D) : -1152921504606846976 ≤ x / (D : Int) ∧ x / (D : Int) ≤ 1152921504606846976 := by
  obtain ⟨⟨d1, d2⟩, ⟨n1, n2⟩, _⟩ := h
  have hD : (0 : Int) < D := by omega
  have h1 := Int.emod_nonneg x (show (D : Int) ≠ 0 by omega)
  have h2 := Int.emod_lt_of_pos x hD
  have h3 := Int.mul_ediv_add_emod x D
  generalize x / (D : Int) = f at *
  generalize x % (D : Int) = r at *
  constructor
  · by_cases h : f < -1152921504606846976
    · have : (D : Int) * f ≤ 1 * f := Int.mul_le_mul_of_nonpos_right (by omega) (by omega)
      have : (D : Int) * f ≤ D * (-1152921504606846977) := Int.mul_le_mul_of_nonneg_left (by omega) (by omega)
      omega
    · omega
  · by_cases h : 1152921504606846976 < f
    · have : 1 * f ≤ (D : Int) * f := Int.mul_le_mul_of_nonneg_right (by omega) (by omega)
      omega
    · omega
theorem meas_step {k N : Nat} (h : k < N) : N - (intOf (.int .i64 ((k : Int) + 1))).toNat < N - (intOf (.int .i64 (k : Int))).toNat := by
  simp [intOf]
  omega
theorem num_step (k : Nat) : Value.int .i64 ((k : Int) + 1) = .int .i64 ((k + 1 : Nat) : Int) := rfl
theorem nat_nneg (k : Nat) : ¬ ((k : Int) + 1 < 0) := by omega
set_option maxHeartbeats 8000000 in
theorem refQuantile_any (G : H) (n d : Int) (hn : inI n) (hd : inI d) (hlen : G.bs.length ≤ 140737488355328) (A : Option Addr) (q : Nat) (w : World) (hL : LS w w.heap.size A G.bs) :
    Calls Try.prog 30 #[hV G.p G.c G.s G.mn G.mx A G.bs.length q, .agg #[.int .i64 n, .int .i64 d]] w fun e w' => e = .returned (quantO G n d) ∧ Below w.heap.size w w' := by
  obtain ⟨W1, hW1⟩ : ∃ W1, W1 = (w.alloc (.cells #[.int .i64 G.p, .int .i64 G.c, .int .i64 G.s, .int .i64 G.mn, .int .i64 G.mx, .slice A G.bs.length q] 29)).alloc (.cells #[.int .i64 n, .int .i64 d] 42) := ⟨_, rfl⟩
  have B0 : Hid (Below w.heap.size w W1) := by show Below _ _ _; rw [hW1]; exact ((Below.refl _ w).alloc (Nat.le_refl _) _).alloc (by simp) _
  have C0 : Hid (HC W1 w.heap.size G.p G.c G.s G.mn G.mx A G.bs.length q) := by show HC _ _ _ _ _ _ _ _ _ _; rw [hW1]; exact (its_box w G.p G.c G.s G.mn G.mx A G.bs.length q n d).1
  have P0 : Hid (∀ V, Below (w.heap.size + 2) W1 V → V.cell? ⟨w.heap.size + 1, 0, none⟩ = some (.int .i64 n) ∧ V.cell? ⟨w.heap.size + 1, 1, none⟩ = some (.int .i64 d)) := by
    refine Lib.hid fun V h => ?_
    rw [hW1] at h
    exact (its_box w G.p G.c G.s G.mn G.mx A G.bs.length q n d).2 V h
  have Z0 : Hid (W1.heap.size = w.heap.size + 2) := by show _ = _; rw [hW1]; simp
  have HW1 := Lib.hid hW1.symm
  have HB : Hid (Below (w.heap.size + 2) W1 W1) := Below.refl _ _
  clear hW1
  have BB : Hid (∀ V', Below (w.heap.size + 2) W1 V' → Below w.heap.size w V') := Lib.hid fun V' h => B0.out.trans (h.mono (by omega))
  have LL : Hid (∀ V', Below (w.heap.size + 2) W1 V' → LS V' V'.heap.size A G.bs) := Lib.hid fun V' h => ((hL.below B0.out).below (h.mono (by omega))).more (by have h1 := h.size; have h2 := Z0.out; omega)
  have CK : Hid (∀ V', Below (w.heap.size + 2) W1 V' → Calls Try.prog 26 #[hV G.p G.c G.s G.mn G.mx A G.bs.length q] V' fun e w' => e = .returned (.int .i64 (chk G : Nat)) ∧ Below V'.heap.size V' w') := Lib.hid fun V' h => refCheck_any G.p G.c G.s G.mn G.mx G.bs hlen A q V' (LL.out V' h)
  have RC := Lib.hid (fun V => Rat.check_any n d V hn hd)
  unfold Rat.rat at RC
  by_cases h1 : chk G ≠ 0
  · rw [quantO, if_pos (.inl h1)]
    have h1b : ((chk G : Nat) : Int) ≠ 0 := by omega
    have h1c : (((chk G : Nat) : Int) != 0) = true := by simpa using h1
    have h1d : (chk G != 0) = true := by simpa using h1
    generalize chk G = zz at *
    go_enter Try.func30, Try.ntmps30
    go_wp2_with (go_at_call 26; rw [HW1.out]; (with_reducible refine (CK.out _ HB.out).mono ?_); rintro e w2 ⟨rfl, hb⟩; have HB2 := Lib.hid (HB.out.trans (hb.mono (by have h2 := Z0.out; omega))); obtain ⟨x0, x1⟩ := P0.out _ HB2.out; clear hb)
    refine bodyPost_ret (v := .tuple #[.int .i64 0, .int .i64 0, .int .i64 1]) (by simp [results, Try.f30, go_sem]) rfl ?_
    exact ⟨rfl, BB.out _ HB2.out⟩
  have h1 : chk G = 0 := by omega
  rw [h1] at CK
  by_cases h2 : ¬ Rat.chk n d
  · rw [quantO, if_pos (.inr h2)]
    simp only [if_neg h2] at RC
    clear h1 h2
    go_enter Try.func30, Try.ntmps30
    go_wp2_with (first | (go_at_call 26; rw [HW1.out]; (with_reducible refine (CK.out _ HB.out).mono ?_); rintro e w2 ⟨rfl, hb⟩; have HB2 := Lib.hid (HB.out.trans (hb.mono (by have h2 := Z0.out; omega))); obtain ⟨x0, x1⟩ := P0.out _ HB2.out; clear hb) | (go_at_call 52; (with_reducible refine (RC.out _).mono ?_); rintro e w3 ⟨rfl, hb⟩; have HB3 := Lib.hid (HB2.out.trans (hb.mono (by have h1 := HB2.out.size; have h2 := Z0.out; omega))); obtain ⟨y0, y1⟩ := P0.out _ HB3.out; obtain ⟨m0, m1, m2, m3, m4, m5⟩ := C0.out.keep (N := w.heap.size + 2) (by omega) HB3.out; clear hb x0 x1))
    refine bodyPost_ret (v := .tuple #[.int .i64 0, .int .i64 0, .int .i64 1]) (by simp [results, Try.f30, go_sem]) rfl ?_
    exact ⟨rfl, BB.out _ HB3.out⟩
  have h2 : Rat.chk n d := Decidable.not_not.1 h2
  have h3 : ¬ (chk G ≠ 0 ∨ ¬ Rat.chk n d) := fun e => e.elim (fun e => e h1) (fun e => e h2)
  rw [quantO, if_neg h3]
  simp only [if_pos h2] at RC
  by_cases h4 : n < 0
  · rw [if_pos (.inl h4)]
    clear h1 h2 h3
    go_enter Try.func30, Try.ntmps30
    go_wp2_with (first | (go_at_call 26; rw [HW1.out]; (with_reducible refine (CK.out _ HB.out).mono ?_); rintro e w2 ⟨rfl, hb⟩; have HB2 := Lib.hid (HB.out.trans (hb.mono (by have h2 := Z0.out; omega))); obtain ⟨x0, x1⟩ := P0.out _ HB2.out; clear hb) | (go_at_call 52; (with_reducible refine (RC.out _).mono ?_); rintro e w3 ⟨rfl, hb⟩; have HB3 := Lib.hid (HB2.out.trans (hb.mono (by have h1 := HB2.out.size; have h2 := Z0.out; omega))); obtain ⟨y0, y1⟩ := P0.out _ HB3.out; obtain ⟨m0, m1, m2, m3, m4, m5⟩ := C0.out.keep (N := w.heap.size + 2) (by omega) HB3.out; clear hb x0 x1))
    refine bodyPost_ret (v := .tuple #[.int .i64 0, .int .i64 0, .int .i64 2]) (by simp [results, Try.f30, go_sem]) rfl ?_
    exact ⟨rfl, BB.out _ HB3.out⟩
  by_cases h5 : d < n
  · rw [if_pos (.inr h5)]
    clear h1 h2 h3
    go_enter Try.func30, Try.ntmps30
    go_wp2_with (first | (go_at_call 26; rw [HW1.out]; (with_reducible refine (CK.out _ HB.out).mono ?_); rintro e w2 ⟨rfl, hb⟩; have HB2 := Lib.hid (HB.out.trans (hb.mono (by have h2 := Z0.out; omega))); obtain ⟨x0, x1⟩ := P0.out _ HB2.out; clear hb) | (go_at_call 52; (with_reducible refine (RC.out _).mono ?_); rintro e w3 ⟨rfl, hb⟩; have HB3 := Lib.hid (HB2.out.trans (hb.mono (by have h1 := HB2.out.size; have h2 := Z0.out; omega))); obtain ⟨y0, y1⟩ := P0.out _ HB3.out; obtain ⟨m0, m1, m2, m3, m4, m5⟩ := C0.out.keep (N := w.heap.size + 2) (by omega) HB3.out; clear hb x0 x1))
    refine bodyPost_ret (v := .tuple #[.int .i64 0, .int .i64 0, .int .i64 2]) (by simp [results, Try.f30, go_sem]) rfl ?_
    exact ⟨rfl, BB.out _ HB3.out⟩
  rw [if_neg (by omega)]
  by_cases h6 : G.c = 0
  · rw [if_pos h6]
    have H6 := Lib.hid h6
    clear h1 h2 h3 h6
    go_enter Try.func30, Try.ntmps30
    go_wp2_with (first | (go_at_call 26; rw [HW1.out]; (with_reducible refine (CK.out _ HB.out).mono ?_); rintro e w2 ⟨rfl, hb⟩; have HB2 := Lib.hid (HB.out.trans (hb.mono (by have h2 := Z0.out; omega))); obtain ⟨x0, x1⟩ := P0.out _ HB2.out; clear hb) | (go_at_call 52; (with_reducible refine (RC.out _).mono ?_); rintro e w3 ⟨rfl, hb⟩; have HB3 := Lib.hid (HB2.out.trans (hb.mono (by have h1 := HB2.out.size; have h2 := Z0.out; omega))); obtain ⟨y0, y1⟩ := P0.out _ HB3.out; obtain ⟨m0, m1, m2, m3, m4, m5⟩ := C0.out.keep (N := w.heap.size + 2) (by omega) HB3.out; clear hb x0 x1; have h6 := H6.out))
    refine bodyPost_ret (v := .tuple #[.int .i64 0, .int .i64 0, .int .i64 28]) (by simp [results, Try.f30, go_sem]) rfl ?_
    exact ⟨rfl, BB.out _ HB3.out⟩
  rw [if_neg h6]
  have ok := chk_iff.1 h1
  have hc1 : 1 ≤ G.c ∧ G.c ≤ 1048576 := by
    have e1 := ok.count
    have e2 := ok.tot
    have e3 := tot_nonneg ok.pos
    omega
  have hcc : Rat.chk (-G.c) 1 := ⟨by omega, by omega, by simp⟩
  have RM := Lib.hid (fun V => Rat.refMul_any n d (-G.c) 1 hn hd (by unfold Rat.inI; omega) (by unfold Rat.inI; omega) V)
  rw [Rat.opOut_yes ⟨h2, hcc⟩] at RM
  have hd0 : 0 < d := by have := h2.1.1; omega
  by_cases h7 : Rat.FitsQ (prodQ n d G.c)
  · rw [if_pos h7]
    have h7b : Rat.FitsQ (prodQ n d (-G.c)) := by rw [prodQ_neg]; exact (fits_neg _).2 h7
    have hq := rkQ_in hd0 (show 0 ≤ n by omega) (show n ≤ d by omega) hc1.1
    have e0 := Rat.outQ_yes h7b
    have hv := Rat.valid_chk (Rat.valid_of_fits h7b)
    have FL := Lib.hid (fun V => Rat.floor_yes (prodQ n d (-G.c)).num (prodQ n d (-G.c)).den hv V)
    have hrk := rkQ_ref (num := n) (den := d) G.c
    have RM : Hid (∀ V, Calls Try.prog 53 #[.agg #[.int .i64 n, .int .i64 d], .agg #[.int .i64 (-G.c), .int .i64 1]] V fun e w' => e = .returned (.tuple #[.agg #[.int .i64 (prodQ n d (-G.c)).num, .int .i64 ((prodQ n d (-G.c)).den : Int)], .int .i64 0]) ∧ Below V.heap.size V w') := Lib.hid fun V => by
      have C := RM.out V
      have e1 : Rat.outQ (Rat.toQ n d.toNat * Rat.toQ (-G.c) (1 : Int).toNat) = _ := e0
      rw [e1] at C
      exact C
    have CP : Hid (∀ k (hk : k < G.bs.length) V, LS V V.heap.size A G.bs → Calls Try.prog 55 #[hV G.p G.c G.s G.mn G.mx A G.bs.length q, .int .i64 k] V fun e w' => e = .returned (.tuple #[.int .i64 (lowH G G.bs[k].1), .int .i64 (highH G G.bs[k].1)]) ∧ Below V.heap.size V w') := Lib.hid fun k hk V h => clip_any G ⟨ok.p0, ok.p8⟩ (fun b hb => ⟨(ok.rng b hb).1, (ok.rng b hb).2.1⟩) hlen k hk A q V h
    have QA := Lib.hid (fun k r hk h1 h2 => qI_at (l := G.bs) (k := k) (r := r) hk ok.pos h1 h2)
    have hct := ok.count
    have hne : 0 < G.bs.length := by
      by_cases e : G.bs.length = 0
      · rw [List.length_eq_zero_iff.1 e] at hct
        have : tot [] = 0 := rfl
        omega
      · omega
    have HTS := Lib.hid (fun k (h : k < G.bs.length) => tot_succ h)
    have HTL := Lib.hid (fun k => tot_take_le ok.pos k)
    have HTN := Lib.hid (fun k => tot_nonneg (pos_take ok.pos k))
    have hb2 : Hid (∀ b ∈ G.bs, b.2 ≤ 1048576) := Lib.hid fun b hb => (ok.rng b hb).2.2
    have ht := ok.tot
    have hl5 := ok.len
    have HF : Hid (-1152921504606846976 ≤ (prodQ n d (-G.c)).num / ((prodQ n d (-G.c)).den : Int) ∧ (prodQ n d (-G.c)).num / ((prodQ n d (-G.c)).den : Int) ≤ 1152921504606846976) := floor_small hv
    rw [← hrk] at hq
    have hrk2 : Hid (rkQ n d G.c = max 1 (-((prodQ n d (-G.c)).num / ((prodQ n d (-G.c)).den : Int)))) := hrk.symm
    rw [hrk2.out]
    generalize (prodQ n d (-G.c)).num / ((prodQ n d (-G.c)).den : Int) = fl at *
    generalize (prodQ n d (-G.c)).num = qn at *
    generalize (prodQ n d (-G.c)).den = qd at *
    clear hv e0 h7 h7b hcc ok h1 h2 h3 hrk hrk2
    have hfl := HF.out
    have hw1 : wrap64 (-G.c) = -G.c := wrap_in (by omega)
    have hw2 : wrap64 (-fl) = -fl := wrap_in (by omega)
    have hw3 : IntKind.i64.wrap (-G.c) = -G.c := IntWalk.i64_in _ (by omega)
    have hw4 : IntKind.i64.wrap (-fl) = -fl := IntWalk.i64_in _ (by omega)
    obtain ⟨rk, hrk⟩ : ∃ rk, max 1 (-fl) = rk := ⟨_, rfl⟩
    rw [hrk] at hq ⊢
    have HRK := Lib.hid hrk
    clear hrk
    have HCT := Lib.hid hct
    clear hct
    have hq2 : rk ≤ tot G.bs := by rw [← HCT.out]; exact hq.2
    go_enter Try.func30, Try.ntmps30
    go_wp2_with (first | (go_at_call 26; rw [HW1.out]; (with_reducible refine (CK.out _ HB.out).mono ?_); rintro e w2 ⟨rfl, hb⟩; have HB2 := Lib.hid (HB.out.trans (hb.mono (by have h2 := Z0.out; omega))); obtain ⟨x0, x1⟩ := P0.out _ HB2.out; clear hb) | (go_at_call 52; (with_reducible refine (RC.out _).mono ?_); rintro e w3 ⟨rfl, hb⟩; have HB3 := Lib.hid (HB2.out.trans (hb.mono (by have h1 := HB2.out.size; have h2 := Z0.out; omega))); obtain ⟨y0, y1⟩ := P0.out _ HB3.out; obtain ⟨m0, m1, m2, m3, m4, m5⟩ := C0.out.keep (N := w.heap.size + 2) (by omega) HB3.out; clear hb x0 x1) | (go_at_call 53; (with_reducible refine (RM.out _).mono ?_); rintro e w4 ⟨rfl, hb⟩; have HB4 := Lib.hid (HB3.out.trans (hb.mono (by have h1 := HB3.out.size; have h2 := Z0.out; omega))); clear hb y0 y1 m0 m1 m2 m3 m4 m5; obtain ⟨m0, m1, m2, m3, m4, m5⟩ := C0.out.keep (N := w.heap.size + 2) (by omega) HB4.out))
    have hlt4 : w.heap.size < w4.heap.size := by have h1 := HB4.out.size; have h2 := Z0.out; omega
    have hb4 := HB4.out.size
    have hz1 := Z0.out
    have BX : Below (w.heap.size + 2) W1 (w4.alloc (.cells #[.int .i64 qn, .int .i64 (qd : Int)] 42)) := HB4.out.alloc (by omega) _
    generalize w4.alloc (.cells #[.int .i64 qn, .int .i64 (qd : Int)] 42) = W5 at *
    with_reducible refine (FL.out _).mono ?_
    rintro e w5 ⟨rfl, hb⟩
    have HB5 := Lib.hid (BX.trans (hb.mono (by have h1 := BX.size; omega)))
    clear hb BX m0 m1 m2 m3 m4 m5
    obtain ⟨m0, m1, m2, m3, m4, m5⟩ := C0.out.keep (N := w.heap.size + 2) (by omega) HB5.out
    obtain ⟨bl, off, eA, hbl, _, c2⟩ := (LL.out _ HB5.out).at_ hne
    subst eA
    have h0l : (0 : Int) < G.bs.length := by omega
    have hmx : (if (1 : Int) < -fl then -fl else 1) = rk := by rw [← HRK.out]; split <;> omega
    go_wp2_with fail
    have HB6 := Lib.hid (fun n => bel_drewN HB5.out n)
    have e0 : G.bs[0].2 = tot (G.bs.take (0 + 1)) := by
      have h1 := HTS.out 0 hne
      have h2 : tot (G.bs.take 0) = 0 := rfl
      omega
    have ez : tot (G.bs.take 0) = 0 := rfl
    rw [e0] at c2
    go_quiet (fail)
    go_wp2_with fail
    rw [HRK.out]
    go_loop [10, 11] (fun vk vn => ∃ k : Nat, k < G.bs.length ∧ tot (G.bs.take k) < rk ∧ vk = .int .i64 k ∧ vn = .int .i64 (tot (G.bs.take (k + 1)))) (fun vk _ => G.bs.length - (intOf vk).toNat)
    case atStart => exact ⟨0, hne, by rw [ez]; omega, rfl, rfl⟩
    case round =>
      obtain ⟨k, hk, hkr, rfl, rfl⟩ := hrel
      clear hw1 hw2 hw3 hw4
      have hn1 := HTN.out (k + 1)
      have hn2 := HTL.out (k + 1)
      by_cases hge : rk ≤ tot (G.bs.take (k + 1))
      · have hq3 := QA.out k rk hk hkr hge
        have CPK := Lib.hid (fun V h => CP.out k hk V (LL.out V h))
        rw [← hq3] at CPK
        have HQ3 := Lib.hid hq3
        obtain ⟨lo, hlo⟩ : ∃ lo, lowH G (qI rk G.bs) = lo := ⟨_, rfl⟩
        obtain ⟨hi, hhi⟩ : ∃ hi, highH G (qI rk G.bs) = hi := ⟨_, rfl⟩
        rw [hlo, hhi] at CPK
        have HLO := Lib.hid hlo
        have HHI := Lib.hid hhi
        clear hq3 hlo hhi
        generalize tot (G.bs.take (k + 1)) = t1 at *
        go_wp2_with (go_at_call 55; (with_reducible refine (CPK.out _ (HB6.out _)).mono ?_); rintro e w7 ⟨rfl, hb⟩; have HB7 := Lib.hid ((HB6.out _).trans (hb.mono (by have h1 := (HB6.out nq).size; omega))); clear hb)
        refine bodyPost_ret (v := .tuple #[.int .i64 lo, .int .i64 hi, .int .i64 0]) (by simp [results, Try.f30, go_sem]) rfl ?_
        exact ⟨by rw [HLO.out, HHI.out], BB.out _ HB7.out⟩
      · have hk1 : k + 1 < G.bs.length := by
          by_cases e : k + 1 < G.bs.length
          · exact e
          · have e2 : k + 1 = G.bs.length := by omega
            rw [e2, List.take_length] at hge
            omega
        have hs1 := HTS.out (k + 1) hk1
        have hn3 := HTN.out (k + 1 + 1)
        have hn4 := HTL.out (k + 1 + 1)
        obtain ⟨b', o', eA, _, _, d2⟩ := (LL.out _ HB5.out).at_ hk1
        injection eA with eA
        injection eA with eA1 eA2
        subst eA1 eA2
        have HS1 := Lib.hid hs1
        have hB5 : -9223372036854775808 ≤ tot (G.bs.take (k + 1)) + G.bs[k + 1].2 ∧ tot (G.bs.take (k + 1)) + G.bs[k + 1].2 ≤ 9223372036854775807 := by omega
        have hB7 : k + 1 < 1000000000000000 := by omega
        have hlt2 : tot (G.bs.take (k + 1)) < rk := by omega
        have hk2 : ((k : Int) + 1) < G.bs.length := by omega
        have HL2 := Lib.hid hlt2
        have hk3 := nat_nneg k
        clear hs1 hge
        go_wp2_with fail
        go_round
        case rel => exact ⟨k + 1, hk1, HL2.out, num_step k, by rw [HS1.out]⟩
        case measure => exact meas_step hk
  · rw [if_neg h7]
    have h7b : ¬ Rat.FitsQ (prodQ n d (-G.c)) := by rw [prodQ_neg]; exact fun h => h7 ((fits_neg _).1 h)
    have e0 := Rat.outQ_no h7b
    have RM : Hid (∀ V, Calls Try.prog 53 #[.agg #[.int .i64 n, .int .i64 d], .agg #[.int .i64 (-G.c), .int .i64 1]] V fun e w' => e = .returned (.tuple #[.agg #[.int .i64 0, .int .i64 0], .int .i64 14]) ∧ Below V.heap.size V w') := Lib.hid fun V => by
      have C := RM.out V
      have e1 : Rat.outQ (Rat.toQ n d.toNat * Rat.toQ (-G.c) (1 : Int).toNat) = _ := e0
      rw [e1] at C
      exact C
    clear e0 h7 h7b hcc ok h1 h2 h3
    have hw1 : wrap64 (-G.c) = -G.c := wrap_in (by omega)
    have hw3 : IntKind.i64.wrap (-G.c) = -G.c := IntWalk.i64_in _ (by omega)
    go_enter Try.func30, Try.ntmps30
    go_wp2_with (first | (go_at_call 26; rw [HW1.out]; (with_reducible refine (CK.out _ HB.out).mono ?_); rintro e w2 ⟨rfl, hb⟩; have HB2 := Lib.hid (HB.out.trans (hb.mono (by have h2 := Z0.out; omega))); obtain ⟨x0, x1⟩ := P0.out _ HB2.out; clear hb) | (go_at_call 52; (with_reducible refine (RC.out _).mono ?_); rintro e w3 ⟨rfl, hb⟩; have HB3 := Lib.hid (HB2.out.trans (hb.mono (by have h1 := HB2.out.size; have h2 := Z0.out; omega))); obtain ⟨y0, y1⟩ := P0.out _ HB3.out; obtain ⟨m0, m1, m2, m3, m4, m5⟩ := C0.out.keep (N := w.heap.size + 2) (by omega) HB3.out; clear hb x0 x1) | (go_at_call 53; (with_reducible refine (RM.out _).mono ?_); rintro e w4 ⟨rfl, hb⟩; have HB4 := Lib.hid (HB3.out.trans (hb.mono (by have h1 := HB3.out.size; have h2 := Z0.out; omega))); clear hb y0 y1 m0 m1 m2 m3 m4 m5; obtain ⟨m0, m1, m2, m3, m4, m5⟩ := C0.out.keep (N := w.heap.size + 2) (by omega) HB4.out))
    refine bodyPost_ret (v := .tuple #[.int .i64 0, .int .i64 0, .int .i64 14]) (by simp [results, Try.f30, go_sem]) rfl ?_
    exact ⟨rfl, (BB.out _ HB4.out).alloc (BB.out _ HB4.out).size _⟩
end Go.Proofs.Ytffnopdpndpngaa.Lh
