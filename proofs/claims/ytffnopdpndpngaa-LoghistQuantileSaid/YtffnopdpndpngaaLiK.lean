/- Layer 12: the reference's Rank. -/
import Derived.Test.YtffnopdpndpngaaLiI
import Derived.Test.YtffnopdpndpngaaLiJ
import Derived.Test.YtffnopdpndpngaaMu
set_option linter.unusedVariables false
set_option linter.unusedSimpArgs false
set_option maxRecDepth 100000
namespace Go.Proofs.Ytffnopdpndpngaa.Lh
open Go.RowKit
def ind (F : Int → Int) (x : Int) : Int → Int := fun j => if F j ≤ x then 1 else 0
theorem ind_take {F : Int → Int} {x : Int} {l : List B} {k : Nat} (h : k < l.length) : W (ind F x) (l.take (k + 1)) = W (ind F x) (l.take k) + if F l[k].1 ≤ x then l[k].2 else 0 := by
  rw [W_take h]
  unfold ind
  split
  · omega
  · omega
theorem ind_small {F : Int → Int} {x : Int} {l : List B} (hp : Pos l) (ht : tot l ≤ 1048576) (k : Nat) : 0 ≤ W (ind F x) (l.take k) ∧ W (ind F x) (l.take k) ≤ 1048576 := by
  have h1 : ∀ j, 0 ≤ ind F x j := fun j => by unfold ind; split <;> omega
  have h2 := W_nonneg h1 (pos_take hp k)
  have h3 : W (ind F x) (l.take k) ≤ tot (l.take k) := W_le (pos_take hp k) fun y _ => by unfold ind; split <;> omega
  have h4 := tot_take_le hp k
  omega
set_option maxHeartbeats 4000000 in
theorem refRank_any (G : H) (x : Int) (hlen : G.bs.length ≤ 140737488355328) (A : Option Addr) (q : Nat) (w : World) (hL : LS w w.heap.size A G.bs) :
    Calls Try.prog 32 #[hV G.p G.c G.s G.mn G.mx A G.bs.length q, .int .i64 x] w fun e w' => e = .returned (rankO G x) ∧ Below w.heap.size w w' := by
  obtain ⟨W1, hW1⟩ : ∃ W1, W1 = w.alloc (.cells #[.int .i64 G.p, .int .i64 G.c, .int .i64 G.s, .int .i64 G.mn, .int .i64 G.mx, .slice A G.bs.length q] 29) := ⟨_, rfl⟩
  have B0 : Below w.heap.size w W1 := by rw [hW1]; exact (Below.refl _ w).alloc (Nat.le_refl _) _
  have C0 : Hid (HC W1 w.heap.size G.p G.c G.s G.mn G.mx A G.bs.length q) := by show HC _ _ _ _ _ _ _ _ _ _; rw [hW1]; exact HC.new w 29 G.p G.c G.s G.mn G.mx A G.bs.length q
  have Z0 : W1.heap.size = w.heap.size + 1 := by rw [hW1]; simp
  have HB0 := Lib.hid B0
  have HW1 := Lib.hid hW1.symm
  have HZ := Lib.hid Z0
  have LL : Hid (∀ V, Below (w.heap.size + 1) W1 V → LS V V.heap.size A G.bs) := Lib.hid fun V h => ((hL.below B0).below (h.mono (by omega))).more (by have h1 := h.size; omega)
  have HB : Hid (Below (w.heap.size + 1) W1 W1) := Below.refl _ _
  have CK : Hid (∀ V, LS V V.heap.size A G.bs → Calls Try.prog 26 #[hV G.p G.c G.s G.mn G.mx A G.bs.length q] V fun e w' => e = .returned (.int .i64 (chk G : Nat)) ∧ Below V.heap.size V w') := Lib.hid fun V h => refCheck_any G.p G.c G.s G.mn G.mx G.bs hlen A q V h
  clear hL B0 hW1 Z0
  by_cases h1 : chk G ≠ 0
  · rw [rankO, if_pos h1]
    have h1b : ((chk G : Nat) : Int) ≠ 0 := by omega
    have h1c : (((chk G : Nat) : Int) != 0) = true := by simpa using h1
    have h1d : (chk G != 0) = true := by simpa using h1
    generalize chk G = zz at *
    go_enter Try.func32, Try.ntmps32
    go_wp2_with (go_at_call 26; rw [HW1.out]; (with_reducible refine (CK.out _ (LL.out _ HB.out)).mono ?_); rintro e w2 ⟨rfl, hb⟩; have HB2 := Lib.hid (HB.out.trans (hb.mono (by have h2 := HZ.out; omega))); clear hb)
    refine bodyPost_ret (v := .tuple #[.int .i64 0, .int .i64 0, .int .i64 1]) (by simp [results, Try.f32, go_sem]) rfl ?_
    exact ⟨rfl, HB0.out.trans (HB2.out.mono (by omega))⟩
  have h1 : chk G = 0 := by omega
  have ok := chk_iff.1 h1
  rw [rankO, if_neg (by omega)]
  rw [h1] at CK
  have CP : Hid (∀ k (hk : k < G.bs.length) V, LS V V.heap.size A G.bs → Calls Try.prog 55 #[hV G.p G.c G.s G.mn G.mx A G.bs.length q, .int .i64 k] V fun e w' => e = .returned (.tuple #[.int .i64 (lowH G G.bs[k].1), .int .i64 (highH G G.bs[k].1)]) ∧ Below V.heap.size V w') := Lib.hid fun k hk V h => clip_any G ⟨ok.p0, ok.p8⟩ (fun b hb => ⟨(ok.rng b hb).1, (ok.rng b hb).2.1⟩) hlen k hk A q V h
  have HS := Lib.hid (fun k => ind_small (F := highH G) (x := x) ok.pos ok.tot k)
  have HP := Lib.hid (fun k => ind_small (F := lowH G) (x := x) ok.pos ok.tot k)
  have HRS := Lib.hid (fun b hb => (ok.rng b hb).2.2)
  have HPO := Lib.hid ok.pos
  have hlen5 := ok.len
  clear ok h1
  have HE : Hid (sureH G x = W (ind (highH G) x) G.bs ∧ possH G x = W (ind (lowH G) x) G.bs) := ⟨rfl, rfl⟩
  go_enter Try.func32, Try.ntmps32
  go_wp2_with (go_at_call 26; rw [HW1.out]; (with_reducible refine (CK.out _ (LL.out _ HB.out)).mono ?_); rintro e w2 ⟨rfl, hb⟩; have HB2 := Lib.hid (HB.out.trans (hb.mono (by have h2 := HZ.out; omega))); clear hb)
  clear HW1 HB CK
  go_loopw [7, 8, 9] (fun vs vp vi wr => ∃ k : Nat, k ≤ G.bs.length ∧ vs = .int .i64 (W (ind (highH G) x) (G.bs.take k)) ∧ vp = .int .i64 (W (ind (lowH G) x) (G.bs.take k)) ∧ vi = .int .i64 k ∧ Hid (Below (w.heap.size + 1) W1 wr)) (fun _ _ vi _ => G.bs.length - (intOf vi).toNat)
  case atStart => exact ⟨0, by omega, rfl, rfl, rfl, HB2⟩
  case round =>
    clear HB2
    obtain ⟨k, hk, rfl, rfl, rfl, HB⟩ := hrel
    obtain ⟨m0, m1, m2, m3, m4, m5⟩ := C0.out.keep (Nat.lt_succ_self _) HB.out
    by_cases hlt : k < G.bs.length
    · have hsz : w.heap.size + 1 ≤ wr.heap.size := by have := HB.out.size; rw [HZ.out] at this; exact this
      have s1 := HS.out k
      have p1 := HP.out k
      have b1 := HPO.out _ (List.getElem_mem hlt)
      have b2 := HRS.out _ (List.getElem_mem hlt)
      have t1 := Lib.hid (ind_take (F := highH G) (x := x) hlt)
      have t2 := Lib.hid (ind_take (F := lowH G) (x := x) hlt)
      have CPK := Lib.hid (CP.out k hlt wr (LL.out _ HB.out))
      have hli : (k : Int) < G.bs.length := by omega
      have LK := Lib.hid (fun V h => (LL.out V h).at_ hlt)
      generalize W (ind (highH G) x) (G.bs.take k) = sk at *
      generalize W (ind (lowH G) x) (G.bs.take k) = pk at *
      generalize highH G G.bs[k].1 = hv at *
      generalize lowH G G.bs[k].1 = lv at *
      generalize G.bs[k].2 = x2 at *
      have w1 : wrap64 (sk + x2) = sk + x2 := wrap_in (by omega)
      have w2 : wrap64 (pk + x2) = pk + x2 := wrap_in (by omega)
      by_cases q1 : hv ≤ x
      · rw [if_pos q1] at t1
        by_cases q2 : lv ≤ x
        · rw [if_pos q2] at t2
          go_wp2_with fail
          with_reducible refine CPK.out.mono ?_
          rintro e wc ⟨rfl, hb⟩
          have HB1 := Lib.hid (HB.out.trans (hb.mono hsz))
          clear hb m0 m1 m2 m3 m4 m5
          obtain ⟨m0, m1, m2, m3, m4, m5⟩ := C0.out.keep (Nat.lt_succ_self _) HB1.out
          obtain ⟨bl, off, eA, hbl, _, c2⟩ := LK.out _ HB1.out
          subst eA
          go_wp2_with fail
          go_roundw
          case rel => exact ⟨k + 1, by omega, by rw [t1.out], by rw [t2.out], by go_num, HB1⟩
          case measure => simp [intOf]; omega
        · rw [if_neg q2, Int.add_zero] at t2
          go_wp2_with fail
          with_reducible refine CPK.out.mono ?_
          rintro e wc ⟨rfl, hb⟩
          have HB1 := Lib.hid (HB.out.trans (hb.mono hsz))
          clear hb m0 m1 m2 m3 m4 m5
          obtain ⟨m0, m1, m2, m3, m4, m5⟩ := C0.out.keep (Nat.lt_succ_self _) HB1.out
          obtain ⟨bl, off, eA, hbl, _, c2⟩ := LK.out _ HB1.out
          subst eA
          go_wp2_with fail
          go_roundw
          case rel => exact ⟨k + 1, by omega, by rw [t1.out], by rw [t2.out], by go_num, HB1⟩
          case measure => simp [intOf]; omega
      · rw [if_neg q1, Int.add_zero] at t1
        by_cases q2 : lv ≤ x
        · rw [if_pos q2] at t2
          go_wp2_with fail
          with_reducible refine CPK.out.mono ?_
          rintro e wc ⟨rfl, hb⟩
          have HB1 := Lib.hid (HB.out.trans (hb.mono hsz))
          clear hb m0 m1 m2 m3 m4 m5
          obtain ⟨m0, m1, m2, m3, m4, m5⟩ := C0.out.keep (Nat.lt_succ_self _) HB1.out
          obtain ⟨bl, off, eA, hbl, _, c2⟩ := LK.out _ HB1.out
          subst eA
          go_wp2_with fail
          go_roundw
          case rel => exact ⟨k + 1, by omega, by rw [t1.out], by rw [t2.out], by go_num, HB1⟩
          case measure => simp [intOf]; omega
        · rw [if_neg q2, Int.add_zero] at t2
          go_wp2_with fail
          with_reducible refine CPK.out.mono ?_
          rintro e wc ⟨rfl, hb⟩
          have HB1 := Lib.hid (HB.out.trans (hb.mono hsz))
          clear hb m0 m1 m2 m3 m4 m5
          obtain ⟨m0, m1, m2, m3, m4, m5⟩ := C0.out.keep (Nat.lt_succ_self _) HB1.out
          obtain ⟨bl, off, eA, hbl, _, c2⟩ := LK.out _ HB1.out
          subst eA
          go_wp2_with fail
          go_roundw
          case rel => exact ⟨k + 1, by omega, by rw [t1.out], by rw [t2.out], by go_num, HB1⟩
          case measure => simp [intOf]; omega
    · obtain rfl : k = G.bs.length := by omega
      rw [List.take_length]
      have hE := HE.out
      rw [← hE.1, ← hE.2]
      clear HE
      obtain ⟨r1, hr1⟩ : ∃ r1, sureH G x = r1 := ⟨_, rfl⟩
      obtain ⟨r2, hr2⟩ : ∃ r2, possH G x = r2 := ⟨_, rfl⟩
      rw [hr1, hr2]
      have HR1 := Lib.hid hr1
      have HR2 := Lib.hid hr2
      clear hr1 hr2 hE
      go_wp2
      refine bodyPost_ret (v := .tuple #[.int .i64 r1, .int .i64 r2, .int .i64 0]) (by simp [results, Try.f32, go_sem]) rfl ?_
      exact ⟨by rw [HR1.out, HR2.out], HB0.out.trans (HB.out.mono (by omega))⟩
end Go.Proofs.Ytffnopdpndpngaa.Lh
