/- Layer 12: the law LoghistReduced. -/
import Derived.Test.YtffnopdpndpngaaNe
set_option maxRecDepth 100000
set_option linter.unusedVariables false
set_option linter.unusedSimpArgs false
namespace Go.Proofs.Ytffnopdpndpngaa.Lh
open Go.RowKit
set_option maxHeartbeats 4000000 in
theorem reduced_walk (a : Int) (ha : 0 ≤ a ∧ a ≤ 255) (b : Int) (hb' : 0 ≤ b ∧ b ≤ 255) (A : Option Addr) (c : Nat) (l : List Int) (hlen : l.length ≤ 9223372036854775807) (n d : Int) (hn : inI n) (hd : inI d) (w : World) (hA : LI w w.heap.size A l) : Calls Try.prog 10 #[.int .u8 a, .int .u8 b, .slice A l.length c, .agg #[.int .i64 n, .int .i64 d]] w fun e w' => e = .returned (.bool true) ∧ Below w.heap.size w w' := by
  have KA := Lib.hid awake_any
  have KF := Lib.hid (fun W h => few_any l A c W h)
  have Ll := Lib.hid hA
  clear hA
  cases hf : fewB l with
  | false =>
    rw [hf] at KF
    have BB : Hid (Below w.heap.size w w) := Below.refl _ _
    obtain ⟨V0, hV0⟩ : ∃ V, V = w.alloc (.cells #[.int .i64 n, .int .i64 d] 42) := ⟨_, rfl⟩
    have Kr : Hid (RX V0 (w.heap.size) n d) := Lib.hid (by rw [hV0]; exact RX.new _ _ _)
    have hb : Below w.heap.size w V0 := by rw [hV0]; exact (Below.refl _ _).alloc (Nat.le_refl _) _
    have hz0 : V0.heap.size = w.heap.size + 1 := by rw [hV0]; simp only [World.size_alloc]
    have Ll := Lib.hid (Ll.out.up hb)
    have BB := Lib.hid (BB.out.trans (hb.mono BB.out.size))
    clear hb
    have HW : Hid ((w.alloc (.cells #[.int .i64 n, .int .i64 d] 42)) = V0) := Lib.hid (by rw [← hV0])
    clear hV0 hz0
    go_enter Try.func10, Try.ntmps10
    obtain ⟨r0, r1⟩ := Kr.out.box
    have rlt := Kr.out.lt
    go_wp2_with fail
    rw [HW.out]
    with_reducible refine (KF.out _ Ll.out).mono ?_
    clear r0 r1 rlt
    rintro e w1_ ⟨rfl, hb⟩
    have Kr := Lib.hid (Kr.out.up hb)
    have Ll := Lib.hid (Ll.out.up hb)
    have BB := Lib.hid (BB.out.trans (hb.mono BB.out.size))
    clear hb
    obtain ⟨r0, r1⟩ := Kr.out.box
    have rlt := Kr.out.lt
    go_wp2_with fail
    with_reducible refine (KA.out _).mono ?_
    clear r0 r1 rlt
    rintro e w2_ ⟨rfl, hb⟩
    have Kr := Lib.hid (Kr.out.up hb)
    have Ll := Lib.hid (Ll.out.up hb)
    have BB := Lib.hid (BB.out.trans (hb.mono BB.out.size))
    clear hb
    go_wp2
    go_ret
    exact ⟨rfl, BB.out⟩
  | true =>
    rw [hf] at KF
    obtain ⟨h20, hv⟩ := few_val hf
    obtain ⟨m, hm⟩ : ∃ m, m = a.tmod 9 := ⟨_, rfl⟩
    have hm1 : 0 ≤ m ∧ m ≤ 8 := by rw [hm, Int.tmod_eq_emod_of_nonneg ha.1]; omega
    obtain ⟨q, hq⟩ : ∃ q, q = b.tmod (m + 1) := ⟨_, rfl⟩
    have hq1 : 0 ≤ q ∧ q ≤ m := by
      rw [hq, Int.tmod_eq_emod_of_nonneg hb'.1]
      have h1 := Int.emod_nonneg b (show m + 1 ≠ 0 by omega)
      have h2 := Int.emod_lt_of_pos b (show 0 < m + 1 by omega)
      omega
    have o1 := bld_of m l
    have o2 := bld_of q l
    have g1 := o1.gi hm1.1 hm1.2 hv (by omega)
    have g2 := o2.gi hq1.1 (by omega) hv (by omega)
    have b1 := fun A c w h => build_any m l hm1.1 hm1.2 hv (by omega) A c w h
    have b2 := fun A c w h => build_any q l hq1.1 (by omega) hv (by omega) A c w h
    have er := o1.redO hq1.1 hq1.2 hm1.2 hv (by omega)
    have eu := er.2.uniq o2
    obtain ⟨x1, y1, x2, y2, z, z1, z2, z3⟩ := quant_red o1 o2 hq1.1 hq1.2 hm1.2 hv (by omega) n d
    have er1 := er.1
    rw [eu] at er1
    clear er eu o1 o2
    generalize bldH m l = G1 at *
    generalize bldH q l = G2 at *
    have C1 := Lib.hid b1
    have C2 := Lib.hid b2
    have C3 : Hid (∀ A c W, LS W W.heap.size A G1.bs → Calls Try.prog 23 #[hV G1.p G1.c G1.s G1.mn G1.mx A G1.bs.length c, .int .i64 q] W (HOut W (G2, 0))) := Lib.hid fun A c W h => by
      have C := gReduce (c := c) g1 q h
      rwa [er1] at C
    have C4 : Hid (∀ A B c k W, LS W W.heap.size A G2.bs → LS W W.heap.size B G2.bs → Calls Try.prog 18 #[hV G2.p G2.c G2.s G2.mn G2.mx A G2.bs.length c, hV G2.p G2.c G2.s G2.mn G2.mx B G2.bs.length k] W fun e w' => e = .returned (.bool true) ∧ Below W.heap.size W w') := Lib.hid fun A B c k W h h2 => gSame g2 h h2
    have C5 : Hid (∀ A c W, LS W W.heap.size A G1.bs → Calls Try.prog 29 #[hV G1.p G1.c G1.s G1.mn G1.mx A G1.bs.length c, .agg #[.int .i64 n, .int .i64 d]] W fun e w' => e = .returned (.tuple #[.int .i64 x1, .int .i64 y1, .int .i64 z]) ∧ Below W.heap.size W w') := Lib.hid fun A c W h => by
      have C := gQuantile (c := c) g1 n d hn hd h
      rwa [z1] at C
    have C6 : Hid (∀ A c W, LS W W.heap.size A G2.bs → Calls Try.prog 29 #[hV G2.p G2.c G2.s G2.mn G2.mx A G2.bs.length c, .agg #[.int .i64 n, .int .i64 d]] W fun e w' => e = .returned (.tuple #[.int .i64 x2, .int .i64 y2, .int .i64 z]) ∧ Below W.heap.size W w') := Lib.hid fun A c W h => by
      have C := gQuantile (c := c) g2 n d hn hd h
      rwa [z2] at C
    have HZ := Lib.hid z3
    have hm' := hm.symm
    have hq' := hq.symm
    have hw1 : wrap64 (m + 1) = m + 1 := wrap_in (by omega)
    have hw2 : ¬ m + 1 = 0 := by omega
    clear b1 b2 er1 z1 z2 z3 g1 g2 hm hq hf
    have BB : Hid (Below w.heap.size w w) := Below.refl _ _
    obtain ⟨V0, hV0⟩ : ∃ V, V = w.alloc (.cells #[.int .i64 n, .int .i64 d] 42) := ⟨_, rfl⟩
    have Kr : Hid (RX V0 (w.heap.size) n d) := Lib.hid (by rw [hV0]; exact RX.new _ _ _)
    have hb : Below w.heap.size w V0 := by rw [hV0]; exact (Below.refl _ _).alloc (Nat.le_refl _) _
    have hz0 : V0.heap.size = w.heap.size + 1 := by rw [hV0]; simp only [World.size_alloc]
    have Ll := Lib.hid (Ll.out.up hb)
    have BB := Lib.hid (BB.out.trans (hb.mono BB.out.size))
    clear hb
    have HW : Hid ((w.alloc (.cells #[.int .i64 n, .int .i64 d] 42)) = V0) := Lib.hid (by rw [← hV0])
    clear hV0 hz0
    go_enter Try.func10, Try.ntmps10
    obtain ⟨r0, r1⟩ := Kr.out.box
    have rlt := Kr.out.lt
    go_wp2_with fail
    rw [HW.out]
    with_reducible refine (KF.out _ Ll.out).mono ?_
    clear r0 r1 rlt
    rintro e w1_ ⟨rfl, hb⟩
    have Kr := Lib.hid (Kr.out.up hb)
    have Ll := Lib.hid (Ll.out.up hb)
    have BB := Lib.hid (BB.out.trans (hb.mono BB.out.size))
    clear hb
    obtain ⟨r0, r1⟩ := Kr.out.box
    have rlt := Kr.out.lt
    go_wp2_with fail
    with_reducible refine (C1.out _ _ _ Ll.out).mono ?_
    clear r0 r1 rlt
    rintro e w2_ ⟨Ag, cg, rfl, hl, hb⟩
    have Kr := Lib.hid (Kr.out.up hb)
    have Ll := Lib.hid (Ll.out.up hb)
    have BB := Lib.hid (BB.out.trans (hb.mono BB.out.size))
    clear hb
    obtain ⟨r0, r1⟩ := Kr.out.box
    have rlt := Kr.out.lt
    go_wp2_with fail
    clear r0 r1 rlt
    have Kg := Lib.hid (HX.new hl (c := cg))
    clear hl
    have hb : Below w2_.heap.size w2_ (w2_.alloc (.cells #[.int .i64 G1.p, .int .i64 G1.c, .int .i64 G1.s, .int .i64 G1.mn, .int .i64 G1.mx, .slice Ag G1.bs.length cg] 29)) := (Below.refl _ _).alloc (Nat.le_refl _) _
    have Kr := Lib.hid (Kr.out.up hb)
    have Ll := Lib.hid (Ll.out.up hb)
    have BB := Lib.hid (BB.out.trans (hb.mono BB.out.size))
    clear hb
    generalize w2_.alloc (.cells #[.int .i64 G1.p, .int .i64 G1.c, .int .i64 G1.s, .int .i64 G1.mn, .int .i64 G1.mx, .slice Ag G1.bs.length cg] 29) = w2_x at *
    with_reducible refine (C2.out _ _ _ Ll.out).mono ?_
    rintro e w3_ ⟨Au, cu, rfl, hl, hb⟩
    have Kr := Lib.hid (Kr.out.up hb)
    have Kg := Lib.hid (Kg.out.up hb)
    have Ll := Lib.hid (Ll.out.up hb)
    have BB := Lib.hid (BB.out.trans (hb.mono BB.out.size))
    clear hb
    obtain ⟨r0, r1⟩ := Kr.out.box
    have rlt := Kr.out.lt
    obtain ⟨g0, g1, g2, g3, g4, g5⟩ := Kg.out.box
    have glt := Kg.out.lt
    go_wp2_with fail
    clear r0 r1 rlt
    clear g0 g1 g2 g3 g4 g5 glt
    have Ku := Lib.hid (HX.new hl (c := cu))
    clear hl
    have hb : Below w3_.heap.size w3_ (w3_.alloc (.cells #[.int .i64 G2.p, .int .i64 G2.c, .int .i64 G2.s, .int .i64 G2.mn, .int .i64 G2.mx, .slice Au G2.bs.length cu] 29)) := (Below.refl _ _).alloc (Nat.le_refl _) _
    have Kr := Lib.hid (Kr.out.up hb)
    have Kg := Lib.hid (Kg.out.up hb)
    have Ll := Lib.hid (Ll.out.up hb)
    have BB := Lib.hid (BB.out.trans (hb.mono BB.out.size))
    clear hb
    generalize w3_.alloc (.cells #[.int .i64 G2.p, .int .i64 G2.c, .int .i64 G2.s, .int .i64 G2.mn, .int .i64 G2.mx, .slice Au G2.bs.length cu] 29) = w3_x at *
    with_reducible refine (C3.out _ _ _ Kg.out.ls).mono ?_
    rintro e w4_ ⟨At, ct, rfl, hl, -, hb⟩
    have Kr := Lib.hid (Kr.out.up hb)
    have Kg := Lib.hid (Kg.out.up hb)
    have Ku := Lib.hid (Ku.out.up hb)
    have Ll := Lib.hid (Ll.out.up hb)
    have BB := Lib.hid (BB.out.trans (hb.mono BB.out.size))
    clear hb
    obtain ⟨r0, r1⟩ := Kr.out.box
    have rlt := Kr.out.lt
    obtain ⟨g0, g1, g2, g3, g4, g5⟩ := Kg.out.box
    have glt := Kg.out.lt
    obtain ⟨u0, u1, u2, u3, u4, u5⟩ := Ku.out.box
    have ult := Ku.out.lt
    go_wp2_with fail
    clear r0 r1 rlt
    clear g0 g1 g2 g3 g4 g5 glt
    clear u0 u1 u2 u3 u4 u5 ult
    have Kt := Lib.hid (HX.new hl (c := ct))
    clear hl
    have hb : Below w4_.heap.size w4_ (w4_.alloc (.cells #[.int .i64 G2.p, .int .i64 G2.c, .int .i64 G2.s, .int .i64 G2.mn, .int .i64 G2.mx, .slice At G2.bs.length ct] 29)) := (Below.refl _ _).alloc (Nat.le_refl _) _
    have Kr := Lib.hid (Kr.out.up hb)
    have Kg := Lib.hid (Kg.out.up hb)
    have Ku := Lib.hid (Ku.out.up hb)
    have Ll := Lib.hid (Ll.out.up hb)
    have BB := Lib.hid (BB.out.trans (hb.mono BB.out.size))
    clear hb
    generalize w4_.alloc (.cells #[.int .i64 G2.p, .int .i64 G2.c, .int .i64 G2.s, .int .i64 G2.mn, .int .i64 G2.mx, .slice At G2.bs.length ct] 29) = w4_x at *
    with_reducible refine (C4.out _ _ _ _ _ Kt.out.ls Ku.out.ls).mono ?_
    rintro e w5_ ⟨rfl, hb⟩
    have Kr := Lib.hid (Kr.out.up hb)
    have Kg := Lib.hid (Kg.out.up hb)
    have Ku := Lib.hid (Ku.out.up hb)
    have Kt := Lib.hid (Kt.out.up hb)
    have Ll := Lib.hid (Ll.out.up hb)
    have BB := Lib.hid (BB.out.trans (hb.mono BB.out.size))
    clear hb
    obtain ⟨r0, r1⟩ := Kr.out.box
    have rlt := Kr.out.lt
    obtain ⟨g0, g1, g2, g3, g4, g5⟩ := Kg.out.box
    have glt := Kg.out.lt
    obtain ⟨u0, u1, u2, u3, u4, u5⟩ := Ku.out.box
    have ult := Ku.out.lt
    obtain ⟨t0, t1, t2, t3, t4, t5⟩ := Kt.out.box
    have tlt := Kt.out.lt
    go_wp2_with fail
    with_reducible refine (C5.out _ _ _ Kg.out.ls).mono ?_
    clear r0 r1 rlt
    clear g0 g1 g2 g3 g4 g5 glt
    clear u0 u1 u2 u3 u4 u5 ult
    clear t0 t1 t2 t3 t4 t5 tlt
    rintro e w6_ ⟨rfl, hb⟩
    have Kr := Lib.hid (Kr.out.up hb)
    have Kg := Lib.hid (Kg.out.up hb)
    have Ku := Lib.hid (Ku.out.up hb)
    have Kt := Lib.hid (Kt.out.up hb)
    have Ll := Lib.hid (Ll.out.up hb)
    have BB := Lib.hid (BB.out.trans (hb.mono BB.out.size))
    clear hb
    obtain ⟨r0, r1⟩ := Kr.out.box
    have rlt := Kr.out.lt
    obtain ⟨g0, g1, g2, g3, g4, g5⟩ := Kg.out.box
    have glt := Kg.out.lt
    obtain ⟨u0, u1, u2, u3, u4, u5⟩ := Ku.out.box
    have ult := Ku.out.lt
    obtain ⟨t0, t1, t2, t3, t4, t5⟩ := Kt.out.box
    have tlt := Kt.out.lt
    go_wp2_with fail
    with_reducible refine (C6.out _ _ _ Kt.out.ls).mono ?_
    clear r0 r1 rlt
    clear g0 g1 g2 g3 g4 g5 glt
    clear u0 u1 u2 u3 u4 u5 ult
    clear t0 t1 t2 t3 t4 t5 tlt
    rintro e w7_ ⟨rfl, hb⟩
    have Kr := Lib.hid (Kr.out.up hb)
    have Kg := Lib.hid (Kg.out.up hb)
    have Ku := Lib.hid (Ku.out.up hb)
    have Kt := Lib.hid (Kt.out.up hb)
    have Ll := Lib.hid (Ll.out.up hb)
    have BB := Lib.hid (BB.out.trans (hb.mono BB.out.size))
    clear hb
    rcases HZ.out with hz | ⟨hz1, hz2⟩
    · skip
      obtain ⟨r0, r1⟩ := Kr.out.box
      have rlt := Kr.out.lt
      obtain ⟨g0, g1, g2, g3, g4, g5⟩ := Kg.out.box
      have glt := Kg.out.lt
      obtain ⟨u0, u1, u2, u3, u4, u5⟩ := Ku.out.box
      have ult := Ku.out.lt
      obtain ⟨t0, t1, t2, t3, t4, t5⟩ := Kt.out.box
      have tlt := Kt.out.lt
      go_wp2_with fail
      with_reducible refine (KA.out _).mono ?_
      clear r0 r1 rlt
      clear g0 g1 g2 g3 g4 g5 glt
      clear u0 u1 u2 u3 u4 u5 ult
      clear t0 t1 t2 t3 t4 t5 tlt
      rintro e w8_ ⟨rfl, hb⟩
      have Kr := Lib.hid (Kr.out.up hb)
      have Kg := Lib.hid (Kg.out.up hb)
      have Ku := Lib.hid (Ku.out.up hb)
      have Kt := Lib.hid (Kt.out.up hb)
      have Ll := Lib.hid (Ll.out.up hb)
      have BB := Lib.hid (BB.out.trans (hb.mono BB.out.size))
      clear hb
      go_wp2
      go_ret
      exact ⟨rfl, BB.out⟩
    · by_cases hz : z = 0
      · subst hz
        obtain ⟨r0, r1⟩ := Kr.out.box
        have rlt := Kr.out.lt
        obtain ⟨g0, g1, g2, g3, g4, g5⟩ := Kg.out.box
        have glt := Kg.out.lt
        obtain ⟨u0, u1, u2, u3, u4, u5⟩ := Ku.out.box
        have ult := Ku.out.lt
        obtain ⟨t0, t1, t2, t3, t4, t5⟩ := Kt.out.box
        have tlt := Kt.out.lt
        go_wp2_with fail
        with_reducible refine (KA.out _).mono ?_
        clear r0 r1 rlt
        clear g0 g1 g2 g3 g4 g5 glt
        clear u0 u1 u2 u3 u4 u5 ult
        clear t0 t1 t2 t3 t4 t5 tlt
        rintro e w8_ ⟨rfl, hb⟩
        have Kr := Lib.hid (Kr.out.up hb)
        have Kg := Lib.hid (Kg.out.up hb)
        have Ku := Lib.hid (Ku.out.up hb)
        have Kt := Lib.hid (Kt.out.up hb)
        have Ll := Lib.hid (Ll.out.up hb)
        have BB := Lib.hid (BB.out.trans (hb.mono BB.out.size))
        clear hb
        go_wp2
        go_ret
        exact ⟨rfl, BB.out⟩
      · skip
        obtain ⟨r0, r1⟩ := Kr.out.box
        have rlt := Kr.out.lt
        obtain ⟨g0, g1, g2, g3, g4, g5⟩ := Kg.out.box
        have glt := Kg.out.lt
        obtain ⟨u0, u1, u2, u3, u4, u5⟩ := Ku.out.box
        have ult := Ku.out.lt
        obtain ⟨t0, t1, t2, t3, t4, t5⟩ := Kt.out.box
        have tlt := Kt.out.lt
        go_wp2_with fail
        with_reducible refine (KA.out _).mono ?_
        clear r0 r1 rlt
        clear g0 g1 g2 g3 g4 g5 glt
        clear u0 u1 u2 u3 u4 u5 ult
        clear t0 t1 t2 t3 t4 t5 tlt
        rintro e w8_ ⟨rfl, hb⟩
        have Kr := Lib.hid (Kr.out.up hb)
        have Kg := Lib.hid (Kg.out.up hb)
        have Ku := Lib.hid (Ku.out.up hb)
        have Kt := Lib.hid (Kt.out.up hb)
        have Ll := Lib.hid (Ll.out.up hb)
        have BB := Lib.hid (BB.out.trans (hb.mono BB.out.size))
        clear hb
        go_wp2
        go_ret
        exact ⟨rfl, BB.out⟩
end Go.Proofs.Ytffnopdpndpngaa.Lh
