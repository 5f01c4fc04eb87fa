/- Layer 12: the law LoghistOrders. -/
import Derived.Test.YtffnopdpndpngaaNe
import Derived.Test.YtffnopdpndpngaaNh
set_option maxRecDepth 100000
set_option linter.unusedVariables false
set_option linter.unusedSimpArgs false
namespace Go.Proofs.Ytffnopdpndpngaa.Lh
open Go.RowKit
theorem of_of {p q : Int} {vs : List Int} {h : H} (o : Of p vs h) (e : p = q) : Of q vs h := e ▸ o
theorem ord_all {m n : Int} {a b c : List Int} (hm : 0 ≤ m ∧ m ≤ 8) (hn : 0 ≤ n ∧ n ≤ 8) (ha : Val a) (hb : Val b) (hc : Val c) (la : a.length ≤ 20) (lb : b.length ≤ 20) (lc : c.length ≤ 20) :
    ∃ L YZ : H, mrgO (bldH m a) (bldH n b) = (bldH (min m n) (b ++ a), 0) ∧ mrgO (bldH n b) (bldH m a) = (bldH (min m n) (b ++ a), 0) ∧ mrgO (bldH (min m n) (b ++ a)) (bldH m c) = (L, 0) ∧ mrgO (bldH n b) (bldH m c) = (YZ, 0) ∧ mrgO (bldH m a) YZ = (L, 0) ∧ GI L ∧ GI YZ := by
  have oa := bld_of m a
  have ob := bld_of n b
  have oc := bld_of m c
  have ol := bld_of (min m n) (b ++ a)
  have hba : Val (b ++ a) := hb.append ha
  have lba : (b ++ a).length ≤ 40 := by rw [List.length_append]; omega
  obtain ⟨h1, e1, o1⟩ := oa.mrgO ob hm hn ha hb (by omega)
  obtain ⟨h2, e2, o2⟩ := ob.mrgO oa hn hm hb ha (by omega)
  obtain ⟨h3, e3, o3⟩ := ol.mrgO oc (by omega) hm hba hc (by omega)
  obtain ⟨h4, e4, o4⟩ := ob.mrgO oc hn hm hb hc (by omega)
  have hbc : Val (b ++ c) := hb.append hc
  have lbc : (b ++ c).length ≤ 40 := by rw [List.length_append]; omega
  obtain ⟨h5, e5, o5⟩ := oa.mrgO o4 hm (by omega) ha hbc (by omega)
  have u1 : h1 = bldH (min m n) (b ++ a) := (o1.perm List.perm_append_comm).uniq ol
  have u2 : h2 = bldH (min m n) (b ++ a) := (of_of o2 (by omega)).uniq ol
  have pm : (a ++ (b ++ c)).Perm ((b ++ a) ++ c) := by
    rw [← List.append_assoc]
    exact List.Perm.append_right c List.perm_append_comm
  have u5 : h5 = h3 := (of_of (o5.perm pm) (show min m (min n m) = min (min m n) m by omega)).uniq o3
  refine ⟨h3, h4, by rw [e1, u1], by rw [e2, u2], e3, e4, by rw [e5, u5], ?_, ?_⟩
  · exact o3.gi (by omega) (by omega) (hba.append hc) (by rw [List.length_append]; omega)
  · exact o4.gi (by omega) (by omega) hbc (by omega)
set_option maxHeartbeats 8000000 in
theorem orders_walk (p : Int) (hp : 0 ≤ p ∧ p ≤ 255) (q : Int) (hq : 0 ≤ q ∧ q ≤ 255) (A1 : Option Addr) (c1 : Nat) (a : List Int) (la : a.length ≤ 9223372036854775807) (A2 : Option Addr) (c2 : Nat) (b : List Int) (lb : b.length ≤ 9223372036854775807) (A3 : Option Addr) (c3 : Nat) (c : List Int) (lc : c.length ≤ 9223372036854775807) (w : World) (hA1 : LI w w.heap.size A1 a) (hA2 : LI w w.heap.size A2 b) (hA3 : LI w w.heap.size A3 c) : Calls Try.prog 9 #[.int .u8 p, .int .u8 q, .slice A1 a.length c1, .slice A2 b.length c2, .slice A3 c.length c3] w fun e w' => e = .returned (.bool true) ∧ Below w.heap.size w w' := by
  have KA := Lib.hid awake_any
  have F1 := Lib.hid (fun W h => few_any a A1 c1 W h)
  have F2 := Lib.hid (fun W h => few_any b A2 c2 W h)
  have F3 := Lib.hid (fun W h => few_any c A3 c3 W h)
  have La := Lib.hid hA1
  have Lb := Lib.hid hA2
  have Lc := Lib.hid hA3
  have BB : Hid (Below w.heap.size w w) := Below.refl _ _
  clear hA1 hA2 hA3
  by_cases f0 : fewB a = false
  · rw [f0] at F1
    go_enter Try.func9, Try.ntmps9
    go_wp2_with fail
    with_reducible refine (F1.out _ La.out).mono ?_
    rintro e w1_ ⟨rfl, hb⟩
    have La := Lib.hid (La.out.up hb)
    have Lb := Lib.hid (Lb.out.up hb)
    have Lc := Lib.hid (Lc.out.up hb)
    have BB := Lib.hid (BB.out.trans (hb.mono BB.out.size))
    clear hb
    go_wp2_with fail
    with_reducible refine (KA.out _).mono ?_
    rintro e w2_ ⟨rfl, hb⟩
    have La := Lib.hid (La.out.up hb)
    have Lb := Lib.hid (Lb.out.up hb)
    have Lc := Lib.hid (Lc.out.up hb)
    have BB := Lib.hid (BB.out.trans (hb.mono BB.out.size))
    clear hb
    go_wp2
    go_ret
    exact ⟨rfl, BB.out⟩
  have f0 : fewB a = true := by simpa using f0
  rw [f0] at F1
  by_cases f1 : fewB b = false
  · rw [f1] at F2
    go_enter Try.func9, Try.ntmps9
    go_wp2_with fail
    with_reducible refine (F1.out _ La.out).mono ?_
    rintro e w1_ ⟨rfl, hb⟩
    have La := Lib.hid (La.out.up hb)
    have Lb := Lib.hid (Lb.out.up hb)
    have Lc := Lib.hid (Lc.out.up hb)
    have BB := Lib.hid (BB.out.trans (hb.mono BB.out.size))
    clear hb
    go_wp2_with fail
    with_reducible refine (F2.out _ Lb.out).mono ?_
    rintro e w2_ ⟨rfl, hb⟩
    have La := Lib.hid (La.out.up hb)
    have Lb := Lib.hid (Lb.out.up hb)
    have Lc := Lib.hid (Lc.out.up hb)
    have BB := Lib.hid (BB.out.trans (hb.mono BB.out.size))
    clear hb
    go_wp2_with fail
    with_reducible refine (KA.out _).mono ?_
    rintro e w3_ ⟨rfl, hb⟩
    have La := Lib.hid (La.out.up hb)
    have Lb := Lib.hid (Lb.out.up hb)
    have Lc := Lib.hid (Lc.out.up hb)
    have BB := Lib.hid (BB.out.trans (hb.mono BB.out.size))
    clear hb
    go_wp2
    go_ret
    exact ⟨rfl, BB.out⟩
  have f1 : fewB b = true := by simpa using f1
  rw [f1] at F2
  by_cases f2 : fewB c = false
  · rw [f2] at F3
    go_enter Try.func9, Try.ntmps9
    go_wp2_with fail
    with_reducible refine (F1.out _ La.out).mono ?_
    rintro e w1_ ⟨rfl, hb⟩
    have La := Lib.hid (La.out.up hb)
    have Lb := Lib.hid (Lb.out.up hb)
    have Lc := Lib.hid (Lc.out.up hb)
    have BB := Lib.hid (BB.out.trans (hb.mono BB.out.size))
    clear hb
    go_wp2_with fail
    with_reducible refine (F2.out _ Lb.out).mono ?_
    rintro e w2_ ⟨rfl, hb⟩
    have La := Lib.hid (La.out.up hb)
    have Lb := Lib.hid (Lb.out.up hb)
    have Lc := Lib.hid (Lc.out.up hb)
    have BB := Lib.hid (BB.out.trans (hb.mono BB.out.size))
    clear hb
    go_wp2_with fail
    with_reducible refine (F3.out _ Lc.out).mono ?_
    rintro e w3_ ⟨rfl, hb⟩
    have La := Lib.hid (La.out.up hb)
    have Lb := Lib.hid (Lb.out.up hb)
    have Lc := Lib.hid (Lc.out.up hb)
    have BB := Lib.hid (BB.out.trans (hb.mono BB.out.size))
    clear hb
    go_wp2_with fail
    with_reducible refine (KA.out _).mono ?_
    rintro e w4_ ⟨rfl, hb⟩
    have La := Lib.hid (La.out.up hb)
    have Lb := Lib.hid (Lb.out.up hb)
    have Lc := Lib.hid (Lc.out.up hb)
    have BB := Lib.hid (BB.out.trans (hb.mono BB.out.size))
    clear hb
    go_wp2
    go_ret
    exact ⟨rfl, BB.out⟩
  have f2 : fewB c = true := by simpa using f2
  rw [f2] at F3
  obtain ⟨ka, va⟩ := few_val f0
  obtain ⟨kb, vb⟩ := few_val f1
  obtain ⟨kc, vc⟩ := few_val f2
  obtain ⟨m, hm⟩ : ∃ m, m = p.tmod 9 := ⟨_, rfl⟩
  have hm1 : 0 ≤ m ∧ m ≤ 8 := by rw [hm, Int.tmod_eq_emod_of_nonneg hp.1]; omega
  obtain ⟨n, hn⟩ : ∃ n, n = q.tmod 9 := ⟨_, rfl⟩
  have hn1 : 0 ≤ n ∧ n ≤ 8 := by rw [hn, Int.tmod_eq_emod_of_nonneg hq.1]; omega
  have vba : Val (b ++ a) := vb.append va
  have lba : (b ++ a).length ≤ 40 := by rw [List.length_append]; omega
  have b1 := fun A c w h => build_any m a hm1.1 hm1.2 va (by omega) A c w h
  have b2 := fun A c w h => build_any n b hn1.1 hn1.2 vb (by omega) A c w h
  have b3 := fun A k w h => build_any m c hm1.1 hm1.2 vc (by omega) A k w h
  have b4 : ∀ A c w, LI w w.heap.size A (b ++ a) → Calls Try.prog 35 #[.int .i64 (min m n), .slice A (b.length + a.length) c] w (BOut w (bldH (min m n) (b ++ a))) := fun A c w h => by
    have C := build_any (min m n) (b ++ a) (by omega) (by omega) vba (by omega) A c w h
    rwa [List.length_append] at C
  have g1 := bld_gi hm1.1 hm1.2 va (by omega)
  have g2 := bld_gi hn1.1 hn1.2 vb (by omega)
  have g3 := bld_gi hm1.1 hm1.2 vc (by omega)
  have g4 := bld_gi (p := min m n) (by omega) (by omega) vba (by omega)
  obtain ⟨G5, G6, e1, e2, e3, e4, e5, g5, g6⟩ := ord_all hm1 hn1 va vb vc ka kb kc
  generalize bldH m a = G1 at *
  generalize bldH n b = G2 at *
  generalize bldH m c = G3 at *
  generalize bldH (min m n) (b ++ a) = G4 at *
  have C1 := Lib.hid b1
  have C2 := Lib.hid b2
  have C3 := Lib.hid b3
  have C4 := Lib.hid b4
  have M1 : Hid (∀ A B c k W, LS W W.heap.size A G1.bs → LS W W.heap.size B G2.bs → Calls Try.prog 27 #[hV G1.p G1.c G1.s G1.mn G1.mx A G1.bs.length c, hV G2.p G2.c G2.s G2.mn G2.mx B G2.bs.length k] W (HOut W (G4, 0))) := Lib.hid fun A B c k W h h2 => by
    have C := gMerge (c := c) (k := k) g1 g2 h h2
    rwa [e1] at C
  have M2 : Hid (∀ A B c k W, LS W W.heap.size A G2.bs → LS W W.heap.size B G1.bs → Calls Try.prog 27 #[hV G2.p G2.c G2.s G2.mn G2.mx A G2.bs.length c, hV G1.p G1.c G1.s G1.mn G1.mx B G1.bs.length k] W (HOut W (G4, 0))) := Lib.hid fun A B c k W h h2 => by
    have C := gMerge (c := c) (k := k) g2 g1 h h2
    rwa [e2] at C
  have M3 : Hid (∀ A B c k W, LS W W.heap.size A G4.bs → LS W W.heap.size B G3.bs → Calls Try.prog 27 #[hV G4.p G4.c G4.s G4.mn G4.mx A G4.bs.length c, hV G3.p G3.c G3.s G3.mn G3.mx B G3.bs.length k] W (HOut W (G5, 0))) := Lib.hid fun A B c k W h h2 => by
    have C := gMerge (c := c) (k := k) g4 g3 h h2
    rwa [e3] at C
  have M4 : Hid (∀ A B c k W, LS W W.heap.size A G2.bs → LS W W.heap.size B G3.bs → Calls Try.prog 27 #[hV G2.p G2.c G2.s G2.mn G2.mx A G2.bs.length c, hV G3.p G3.c G3.s G3.mn G3.mx B G3.bs.length k] W (HOut W (G6, 0))) := Lib.hid fun A B c k W h h2 => by
    have C := gMerge (c := c) (k := k) g2 g3 h h2
    rwa [e4] at C
  have M5 : Hid (∀ A B c k W, LS W W.heap.size A G1.bs → LS W W.heap.size B G6.bs → Calls Try.prog 27 #[hV G1.p G1.c G1.s G1.mn G1.mx A G1.bs.length c, hV G6.p G6.c G6.s G6.mn G6.mx B G6.bs.length k] W (HOut W (G5, 0))) := Lib.hid fun A B c k W h h2 => by
    have C := gMerge (c := c) (k := k) g1 g6 h h2
    rwa [e5] at C
  have S4 : Hid (∀ A B c k W, LS W W.heap.size A G4.bs → LS W W.heap.size B G4.bs → Calls Try.prog 18 #[hV G4.p G4.c G4.s G4.mn G4.mx A G4.bs.length c, hV G4.p G4.c G4.s G4.mn G4.mx B G4.bs.length k] W fun e w' => e = .returned (.bool true) ∧ Below W.heap.size W w') := Lib.hid fun A B c k W h h2 => gSame g4 h h2
  have S5 : Hid (∀ A B c k W, LS W W.heap.size A G5.bs → LS W W.heap.size B G5.bs → Calls Try.prog 18 #[hV G5.p G5.c G5.s G5.mn G5.mx A G5.bs.length c, hV G5.p G5.c G5.s G5.mn G5.mx B G5.bs.length k] W fun e w' => e = .returned (.bool true) ∧ Below W.heap.size W w') := Lib.hid fun A B c k W h h2 => gSame g5 h h2
  have hm' := hm.symm
  have hn' := hn.symm
  clear b1 b2 b3 b4 e1 e2 e3 e4 e5 g1 g2 g3 g4 g5 g6 hm hn f0 f1 f2 va vb vc vba
  go_enter Try.func9, Try.ntmps9
  go_wp2_with fail
  with_reducible refine (F1.out _ La.out).mono ?_
  rintro e w1_ ⟨rfl, hb⟩
  have La := Lib.hid (La.out.up hb)
  have Lb := Lib.hid (Lb.out.up hb)
  have Lc := Lib.hid (Lc.out.up hb)
  have BB := Lib.hid (BB.out.trans (hb.mono BB.out.size))
  clear hb
  go_wp2_with fail
  with_reducible refine (F2.out _ Lb.out).mono ?_
  rintro e w2_ ⟨rfl, hb⟩
  have La := Lib.hid (La.out.up hb)
  have Lb := Lib.hid (Lb.out.up hb)
  have Lc := Lib.hid (Lc.out.up hb)
  have BB := Lib.hid (BB.out.trans (hb.mono BB.out.size))
  clear hb
  go_wp2_with fail
  with_reducible refine (F3.out _ Lc.out).mono ?_
  rintro e w3_ ⟨rfl, hb⟩
  have La := Lib.hid (La.out.up hb)
  have Lb := Lib.hid (Lb.out.up hb)
  have Lc := Lib.hid (Lc.out.up hb)
  have BB := Lib.hid (BB.out.trans (hb.mono BB.out.size))
  clear hb
  go_wp2_with fail
  with_reducible refine (C1.out _ _ _ La.out).mono ?_
  rintro e w4_ ⟨Ax, cx, rfl, hl, hb⟩
  have La := Lib.hid (La.out.up hb)
  have Lb := Lib.hid (Lb.out.up hb)
  have Lc := Lib.hid (Lc.out.up hb)
  have BB := Lib.hid (BB.out.trans (hb.mono BB.out.size))
  clear hb
  go_wp2_with fail
  have Kx := Lib.hid (HX.new hl (c := cx))
  clear hl
  have hb : Below w4_.heap.size w4_ (w4_.alloc (.cells #[.int .i64 G1.p, .int .i64 G1.c, .int .i64 G1.s, .int .i64 G1.mn, .int .i64 G1.mx, .slice Ax G1.bs.length cx] 29)) := (Below.refl _ _).alloc (Nat.le_refl _) _
  have La := Lib.hid (La.out.up hb)
  have Lb := Lib.hid (Lb.out.up hb)
  have Lc := Lib.hid (Lc.out.up hb)
  have BB := Lib.hid (BB.out.trans (hb.mono BB.out.size))
  clear hb
  generalize w4_.alloc (.cells #[.int .i64 G1.p, .int .i64 G1.c, .int .i64 G1.s, .int .i64 G1.mn, .int .i64 G1.mx, .slice Ax G1.bs.length cx] 29) = w4_x at *
  with_reducible refine (C2.out _ _ _ Lb.out).mono ?_
  rintro e w5_ ⟨Ay, cy, rfl, hl, hb⟩
  have Kx := Lib.hid (Kx.out.up hb)
  have La := Lib.hid (La.out.up hb)
  have Lb := Lib.hid (Lb.out.up hb)
  have Lc := Lib.hid (Lc.out.up hb)
  have BB := Lib.hid (BB.out.trans (hb.mono BB.out.size))
  clear hb
  obtain ⟨x0, x1, x2, x3, x4, x5⟩ := Kx.out.box
  have xlt := Kx.out.lt
  go_wp2_with fail
  clear x0 x1 x2 x3 x4 x5 xlt
  have Ky := Lib.hid (HX.new hl (c := cy))
  clear hl
  have hb : Below w5_.heap.size w5_ (w5_.alloc (.cells #[.int .i64 G2.p, .int .i64 G2.c, .int .i64 G2.s, .int .i64 G2.mn, .int .i64 G2.mx, .slice Ay G2.bs.length cy] 29)) := (Below.refl _ _).alloc (Nat.le_refl _) _
  have Kx := Lib.hid (Kx.out.up hb)
  have La := Lib.hid (La.out.up hb)
  have Lb := Lib.hid (Lb.out.up hb)
  have Lc := Lib.hid (Lc.out.up hb)
  have BB := Lib.hid (BB.out.trans (hb.mono BB.out.size))
  clear hb
  generalize w5_.alloc (.cells #[.int .i64 G2.p, .int .i64 G2.c, .int .i64 G2.s, .int .i64 G2.mn, .int .i64 G2.mx, .slice Ay G2.bs.length cy] 29) = w5_x at *
  with_reducible refine (C3.out _ _ _ Lc.out).mono ?_
  rintro e w6_ ⟨Az, cz, rfl, hl, hb⟩
  have Kx := Lib.hid (Kx.out.up hb)
  have Ky := Lib.hid (Ky.out.up hb)
  have La := Lib.hid (La.out.up hb)
  have Lb := Lib.hid (Lb.out.up hb)
  have Lc := Lib.hid (Lc.out.up hb)
  have BB := Lib.hid (BB.out.trans (hb.mono BB.out.size))
  clear hb
  have Kz := Lib.hid (HX.new hl (c := cz))
  clear hl
  have hb : Below w6_.heap.size w6_ (w6_.alloc (.cells #[.int .i64 G3.p, .int .i64 G3.c, .int .i64 G3.s, .int .i64 G3.mn, .int .i64 G3.mx, .slice Az G3.bs.length cz] 29)) := (Below.refl _ _).alloc (Nat.le_refl _) _
  have Kx := Lib.hid (Kx.out.up hb)
  have Ky := Lib.hid (Ky.out.up hb)
  have La := Lib.hid (La.out.up hb)
  have Lb := Lib.hid (Lb.out.up hb)
  have Lc := Lib.hid (Lc.out.up hb)
  have BB := Lib.hid (BB.out.trans (hb.mono BB.out.size))
  clear hb
  obtain ⟨W7, hW7⟩ : ∃ W7, W7 = w6_.alloc (.cells #[.int .i64 G3.p, .int .i64 G3.c, .int .i64 G3.s, .int .i64 G3.mn, .int .i64 G3.mx, .slice Az G3.bs.length cz] 29) := ⟨_, rfl⟩
  have hz7 : W7.heap.size = w6_.heap.size + 1 := by rw [hW7]; simp only [World.size_alloc]
  have HW7 := Lib.hid hW7.symm
  rw [← hW7] at Kx
  rw [← hW7] at Ky
  rw [← hW7] at Kz
  rw [← hW7] at La
  rw [← hW7] at Lb
  rw [← hW7] at Lc
  rw [← hW7] at BB
  clear hW7
  have O0 : Hid ((W7.alloc (.cells #[] 3)).ownsRow (w6_.heap.size + 1) 3 1 (.slice (some ⟨w6_.heap.size + 1, 0, none⟩) 0 0) 0 (ic [])) := ⟨rfl, .inr ⟨_, 0, #[], rfl, Nat.le_refl _, by rw [← hz7]; exact heap_alloc_new _ _, Nat.le_refl _, by unfold maxLen; omega, rfl, rfl⟩⟩
  have X0 : Hid (Below W7.heap.size W7 (W7.alloc (.cells #[] 3))) := (Below.refl _ _).alloc (Nat.le_refl _) _
  obtain ⟨i0, hi, hiz⟩ : ∃ i, Try.prog.info? 3 = some i ∧ (i.zero, i.size, i.bytes) = (some (.int .i64 0), 1, 8) := by
    have h := infoI
    cases h0 : Try.prog.info? 3 with
    | none => rw [h0] at h; cases h
    | some i => rw [h0] at h; exact ⟨i, rfl, by injection h⟩
  have hz0 : i0.zero = some (.int .i64 0) := congrArg (·.1) hiz
  have hz1 : i0.size = 1 := congrArg (·.2.1) hiz
  have hz2 : i0.bytes = 8 := congrArg (·.2.2) hiz
  have HIN := Lib.hid (And.intro hi (And.intro hz0 (And.intro hz1 hz2)))
  clear hi hiz hz0 hz1 hz2
  go_wp2_with (first | (at_builtin; rw [HW7.out]; refine wpList_append_any _ rfl (.tmp 73) (.tmp 74) 46 rfl (w6_.heap.size + 1) 3 i0 _ 1 8 Try.underlying46 HIN.out.1 HIN.out.2.1 HIN.out.2.2.1 HIN.out.2.2.2 rfl (by decide) (.slice (some ⟨w6_.heap.size + 1, 0, none⟩) 0 0) 0 (ic []) rfl O0.out W7.heap.size A2 b.length c2 (ic b) rfl (Lb.out.below X0.out).reads (ic_one b) (by unfold maxLen; omega) (by omega) (by simp; omega) ?_; intro v8 w8 ho hg hv; have HO8 := Lib.hid ho; have X8 := Lib.hid (X0.out.grown hg (by simp) (fun k hk => by have := (O0.out.lt k hk).1; omega)); clear ho hg hv) | (at_builtin; refine wpList_append_any _ rfl (.tmp 75) (.tmp 76) 46 rfl (w6_.heap.size + 1) 3 i0 _ 1 8 Try.underlying46 HIN.out.1 HIN.out.2.1 HIN.out.2.2.1 HIN.out.2.2.2 rfl (by decide) v8 (0 + b.length) (ic [] ++ ic b) rfl HO8.out W7.heap.size A1 a.length c1 (ic a) rfl (La.out.below X8.out).reads (ic_one a) (by unfold maxLen; omega) (by omega) (by have := X8.out.size; omega) ?_; intro v9 w9 ho hg hv; have HO9 := Lib.hid (own_two ho); have X9 := Lib.hid (X8.out.grown hg X8.out.size (fun k hk => by have := (HO8.out.lt k hk).1; omega)); clear ho hg hv; obtain ⟨A9, c9, rfl⟩ := own_form HO9.out))
  have hb := X9.out
  have Kx := Lib.hid (Kx.out.up hb)
  have Ky := Lib.hid (Ky.out.up hb)
  have Kz := Lib.hid (Kz.out.up hb)
  have La := Lib.hid (La.out.up hb)
  have Lb := Lib.hid (Lb.out.up hb)
  have Lc := Lib.hid (Lc.out.up hb)
  have BB := Lib.hid (BB.out.trans (hb.mono BB.out.size))
  clear hb
  with_reducible refine (C4.out _ _ _ (own_LI HO9.out)).mono ?_
  clear HO8 HO9 X8 X9 X0 O0 HIN HW7
  rintro e w7_ ⟨Al, cl, rfl, hl, hb⟩
  have Kx := Lib.hid (Kx.out.up hb)
  have Ky := Lib.hid (Ky.out.up hb)
  have Kz := Lib.hid (Kz.out.up hb)
  have La := Lib.hid (La.out.up hb)
  have Lb := Lib.hid (Lb.out.up hb)
  have Lc := Lib.hid (Lc.out.up hb)
  have BB := Lib.hid (BB.out.trans (hb.mono BB.out.size))
  clear hb
  obtain ⟨x0, x1, x2, x3, x4, x5⟩ := Kx.out.box
  have xlt := Kx.out.lt
  obtain ⟨y0, y1, y2, y3, y4, y5⟩ := Ky.out.box
  have ylt := Ky.out.lt
  obtain ⟨z0, z1, z2, z3, z4, z5⟩ := Kz.out.box
  have zlt := Kz.out.lt
  go_wp2_with fail
  clear x0 x1 x2 x3 x4 x5 xlt
  clear y0 y1 y2 y3 y4 y5 ylt
  clear z0 z1 z2 z3 z4 z5 zlt
  have Kl := Lib.hid (HX.new hl (c := cl))
  clear hl
  have hb : Below w7_.heap.size w7_ (w7_.alloc (.cells #[.int .i64 G4.p, .int .i64 G4.c, .int .i64 G4.s, .int .i64 G4.mn, .int .i64 G4.mx, .slice Al G4.bs.length cl] 29)) := (Below.refl _ _).alloc (Nat.le_refl _) _
  have Kx := Lib.hid (Kx.out.up hb)
  have Ky := Lib.hid (Ky.out.up hb)
  have Kz := Lib.hid (Kz.out.up hb)
  have La := Lib.hid (La.out.up hb)
  have Lb := Lib.hid (Lb.out.up hb)
  have Lc := Lib.hid (Lc.out.up hb)
  have BB := Lib.hid (BB.out.trans (hb.mono BB.out.size))
  clear hb
  generalize w7_.alloc (.cells #[.int .i64 G4.p, .int .i64 G4.c, .int .i64 G4.s, .int .i64 G4.mn, .int .i64 G4.mx, .slice Al G4.bs.length cl] 29) = w7_x at *
  clear La Lb Lc
  with_reducible refine (M1.out _ _ _ _ _ Kx.out.ls Ky.out.ls).mono ?_
  rintro e w8_ ⟨As, cs, rfl, hl, -, hb⟩
  have Kx := Lib.hid (Kx.out.up hb)
  have Ky := Lib.hid (Ky.out.up hb)
  have Kz := Lib.hid (Kz.out.up hb)
  have Kl := Lib.hid (Kl.out.up hb)
  have BB := Lib.hid (BB.out.trans (hb.mono BB.out.size))
  clear hb
  obtain ⟨x0, x1, x2, x3, x4, x5⟩ := Kx.out.box
  have xlt := Kx.out.lt
  obtain ⟨y0, y1, y2, y3, y4, y5⟩ := Ky.out.box
  have ylt := Ky.out.lt
  obtain ⟨z0, z1, z2, z3, z4, z5⟩ := Kz.out.box
  have zlt := Kz.out.lt
  obtain ⟨l0, l1, l2, l3, l4, l5⟩ := Kl.out.box
  have llt := Kl.out.lt
  go_wp2_with fail
  clear x0 x1 x2 x3 x4 x5 xlt
  clear y0 y1 y2 y3 y4 y5 ylt
  clear z0 z1 z2 z3 z4 z5 zlt
  clear l0 l1 l2 l3 l4 l5 llt
  have Ks := Lib.hid (HX.new hl (c := cs))
  clear hl
  have hb : Below w8_.heap.size w8_ (w8_.alloc (.cells #[.int .i64 G4.p, .int .i64 G4.c, .int .i64 G4.s, .int .i64 G4.mn, .int .i64 G4.mx, .slice As G4.bs.length cs] 29)) := (Below.refl _ _).alloc (Nat.le_refl _) _
  have Kx := Lib.hid (Kx.out.up hb)
  have Ky := Lib.hid (Ky.out.up hb)
  have Kz := Lib.hid (Kz.out.up hb)
  have Kl := Lib.hid (Kl.out.up hb)
  have BB := Lib.hid (BB.out.trans (hb.mono BB.out.size))
  clear hb
  generalize w8_.alloc (.cells #[.int .i64 G4.p, .int .i64 G4.c, .int .i64 G4.s, .int .i64 G4.mn, .int .i64 G4.mx, .slice As G4.bs.length cs] 29) = w8_x at *
  with_reducible refine (M2.out _ _ _ _ _ Ky.out.ls Kx.out.ls).mono ?_
  rintro e w9_ ⟨At, ct, rfl, hl, -, hb⟩
  have Kx := Lib.hid (Kx.out.up hb)
  have Ky := Lib.hid (Ky.out.up hb)
  have Kz := Lib.hid (Kz.out.up hb)
  have Kl := Lib.hid (Kl.out.up hb)
  have Ks := Lib.hid (Ks.out.up hb)
  have BB := Lib.hid (BB.out.trans (hb.mono BB.out.size))
  clear hb
  obtain ⟨x0, x1, x2, x3, x4, x5⟩ := Kx.out.box
  have xlt := Kx.out.lt
  obtain ⟨y0, y1, y2, y3, y4, y5⟩ := Ky.out.box
  have ylt := Ky.out.lt
  obtain ⟨z0, z1, z2, z3, z4, z5⟩ := Kz.out.box
  have zlt := Kz.out.lt
  obtain ⟨l0, l1, l2, l3, l4, l5⟩ := Kl.out.box
  have llt := Kl.out.lt
  obtain ⟨s0, s1, s2, s3, s4, s5⟩ := Ks.out.box
  have slt := Ks.out.lt
  go_wp2_with fail
  clear x0 x1 x2 x3 x4 x5 xlt
  clear y0 y1 y2 y3 y4 y5 ylt
  clear z0 z1 z2 z3 z4 z5 zlt
  clear l0 l1 l2 l3 l4 l5 llt
  clear s0 s1 s2 s3 s4 s5 slt
  have Kt := Lib.hid (HX.new hl (c := ct))
  clear hl
  have hb : Below w9_.heap.size w9_ (w9_.alloc (.cells #[.int .i64 G4.p, .int .i64 G4.c, .int .i64 G4.s, .int .i64 G4.mn, .int .i64 G4.mx, .slice At G4.bs.length ct] 29)) := (Below.refl _ _).alloc (Nat.le_refl _) _
  have Kx := Lib.hid (Kx.out.up hb)
  have Ky := Lib.hid (Ky.out.up hb)
  have Kz := Lib.hid (Kz.out.up hb)
  have Kl := Lib.hid (Kl.out.up hb)
  have Ks := Lib.hid (Ks.out.up hb)
  have BB := Lib.hid (BB.out.trans (hb.mono BB.out.size))
  clear hb
  generalize w9_.alloc (.cells #[.int .i64 G4.p, .int .i64 G4.c, .int .i64 G4.s, .int .i64 G4.mn, .int .i64 G4.mx, .slice At G4.bs.length ct] 29) = w9_x at *
  with_reducible refine (M3.out _ _ _ _ _ Ks.out.ls Kz.out.ls).mono ?_
  rintro e w10_ ⟨Au, cu, rfl, hl, -, hb⟩
  have Kx := Lib.hid (Kx.out.up hb)
  have Ky := Lib.hid (Ky.out.up hb)
  have Kz := Lib.hid (Kz.out.up hb)
  have Kl := Lib.hid (Kl.out.up hb)
  have Ks := Lib.hid (Ks.out.up hb)
  have Kt := Lib.hid (Kt.out.up hb)
  have BB := Lib.hid (BB.out.trans (hb.mono BB.out.size))
  clear hb
  obtain ⟨x0, x1, x2, x3, x4, x5⟩ := Kx.out.box
  have xlt := Kx.out.lt
  obtain ⟨y0, y1, y2, y3, y4, y5⟩ := Ky.out.box
  have ylt := Ky.out.lt
  obtain ⟨z0, z1, z2, z3, z4, z5⟩ := Kz.out.box
  have zlt := Kz.out.lt
  obtain ⟨l0, l1, l2, l3, l4, l5⟩ := Kl.out.box
  have llt := Kl.out.lt
  obtain ⟨s0, s1, s2, s3, s4, s5⟩ := Ks.out.box
  have slt := Ks.out.lt
  obtain ⟨t0, t1, t2, t3, t4, t5⟩ := Kt.out.box
  have tlt := Kt.out.lt
  go_wp2_with fail
  clear x0 x1 x2 x3 x4 x5 xlt
  clear y0 y1 y2 y3 y4 y5 ylt
  clear z0 z1 z2 z3 z4 z5 zlt
  clear l0 l1 l2 l3 l4 l5 llt
  clear s0 s1 s2 s3 s4 s5 slt
  clear t0 t1 t2 t3 t4 t5 tlt
  have Ku := Lib.hid (HX.new hl (c := cu))
  clear hl
  have hb : Below w10_.heap.size w10_ (w10_.alloc (.cells #[.int .i64 G5.p, .int .i64 G5.c, .int .i64 G5.s, .int .i64 G5.mn, .int .i64 G5.mx, .slice Au G5.bs.length cu] 29)) := (Below.refl _ _).alloc (Nat.le_refl _) _
  have Kx := Lib.hid (Kx.out.up hb)
  have Ky := Lib.hid (Ky.out.up hb)
  have Kz := Lib.hid (Kz.out.up hb)
  have Kl := Lib.hid (Kl.out.up hb)
  have Ks := Lib.hid (Ks.out.up hb)
  have Kt := Lib.hid (Kt.out.up hb)
  have BB := Lib.hid (BB.out.trans (hb.mono BB.out.size))
  clear hb
  generalize w10_.alloc (.cells #[.int .i64 G5.p, .int .i64 G5.c, .int .i64 G5.s, .int .i64 G5.mn, .int .i64 G5.mx, .slice Au G5.bs.length cu] 29) = w10_x at *
  with_reducible refine (M4.out _ _ _ _ _ Ky.out.ls Kz.out.ls).mono ?_
  rintro e w11_ ⟨Av, cv, rfl, hl, -, hb⟩
  have Kx := Lib.hid (Kx.out.up hb)
  have Ky := Lib.hid (Ky.out.up hb)
  have Kz := Lib.hid (Kz.out.up hb)
  have Kl := Lib.hid (Kl.out.up hb)
  have Ks := Lib.hid (Ks.out.up hb)
  have Kt := Lib.hid (Kt.out.up hb)
  have Ku := Lib.hid (Ku.out.up hb)
  have BB := Lib.hid (BB.out.trans (hb.mono BB.out.size))
  clear hb
  obtain ⟨x0, x1, x2, x3, x4, x5⟩ := Kx.out.box
  have xlt := Kx.out.lt
  obtain ⟨y0, y1, y2, y3, y4, y5⟩ := Ky.out.box
  have ylt := Ky.out.lt
  obtain ⟨z0, z1, z2, z3, z4, z5⟩ := Kz.out.box
  have zlt := Kz.out.lt
  obtain ⟨l0, l1, l2, l3, l4, l5⟩ := Kl.out.box
  have llt := Kl.out.lt
  obtain ⟨s0, s1, s2, s3, s4, s5⟩ := Ks.out.box
  have slt := Ks.out.lt
  obtain ⟨t0, t1, t2, t3, t4, t5⟩ := Kt.out.box
  have tlt := Kt.out.lt
  obtain ⟨u0, u1, u2, u3, u4, u5⟩ := Ku.out.box
  have ult := Ku.out.lt
  go_wp2_with fail
  clear x0 x1 x2 x3 x4 x5 xlt
  clear y0 y1 y2 y3 y4 y5 ylt
  clear z0 z1 z2 z3 z4 z5 zlt
  clear l0 l1 l2 l3 l4 l5 llt
  clear s0 s1 s2 s3 s4 s5 slt
  clear t0 t1 t2 t3 t4 t5 tlt
  clear u0 u1 u2 u3 u4 u5 ult
  have Kv := Lib.hid (HX.new hl (c := cv))
  clear hl
  have hb : Below w11_.heap.size w11_ (w11_.alloc (.cells #[.int .i64 G6.p, .int .i64 G6.c, .int .i64 G6.s, .int .i64 G6.mn, .int .i64 G6.mx, .slice Av G6.bs.length cv] 29)) := (Below.refl _ _).alloc (Nat.le_refl _) _
  have Kx := Lib.hid (Kx.out.up hb)
  have Ky := Lib.hid (Ky.out.up hb)
  have Kz := Lib.hid (Kz.out.up hb)
  have Kl := Lib.hid (Kl.out.up hb)
  have Ks := Lib.hid (Ks.out.up hb)
  have Kt := Lib.hid (Kt.out.up hb)
  have Ku := Lib.hid (Ku.out.up hb)
  have BB := Lib.hid (BB.out.trans (hb.mono BB.out.size))
  clear hb
  generalize w11_.alloc (.cells #[.int .i64 G6.p, .int .i64 G6.c, .int .i64 G6.s, .int .i64 G6.mn, .int .i64 G6.mx, .slice Av G6.bs.length cv] 29) = w11_x at *
  with_reducible refine (M5.out _ _ _ _ _ Kx.out.ls Kv.out.ls).mono ?_
  rintro e w12_ ⟨Ar, cr, rfl, hl, -, hb⟩
  have Kx := Lib.hid (Kx.out.up hb)
  have Ky := Lib.hid (Ky.out.up hb)
  have Kz := Lib.hid (Kz.out.up hb)
  have Kl := Lib.hid (Kl.out.up hb)
  have Ks := Lib.hid (Ks.out.up hb)
  have Kt := Lib.hid (Kt.out.up hb)
  have Ku := Lib.hid (Ku.out.up hb)
  have Kv := Lib.hid (Kv.out.up hb)
  have BB := Lib.hid (BB.out.trans (hb.mono BB.out.size))
  clear hb
  obtain ⟨x0, x1, x2, x3, x4, x5⟩ := Kx.out.box
  have xlt := Kx.out.lt
  obtain ⟨y0, y1, y2, y3, y4, y5⟩ := Ky.out.box
  have ylt := Ky.out.lt
  obtain ⟨z0, z1, z2, z3, z4, z5⟩ := Kz.out.box
  have zlt := Kz.out.lt
  obtain ⟨l0, l1, l2, l3, l4, l5⟩ := Kl.out.box
  have llt := Kl.out.lt
  obtain ⟨s0, s1, s2, s3, s4, s5⟩ := Ks.out.box
  have slt := Ks.out.lt
  obtain ⟨t0, t1, t2, t3, t4, t5⟩ := Kt.out.box
  have tlt := Kt.out.lt
  obtain ⟨u0, u1, u2, u3, u4, u5⟩ := Ku.out.box
  have ult := Ku.out.lt
  obtain ⟨v0, v1, v2, v3, v4, v5⟩ := Kv.out.box
  have vlt := Kv.out.lt
  go_wp2_with fail
  clear x0 x1 x2 x3 x4 x5 xlt
  clear y0 y1 y2 y3 y4 y5 ylt
  clear z0 z1 z2 z3 z4 z5 zlt
  clear l0 l1 l2 l3 l4 l5 llt
  clear s0 s1 s2 s3 s4 s5 slt
  clear t0 t1 t2 t3 t4 t5 tlt
  clear u0 u1 u2 u3 u4 u5 ult
  clear v0 v1 v2 v3 v4 v5 vlt
  have Kr := Lib.hid (HX.new hl (c := cr))
  clear hl
  have hb : Below w12_.heap.size w12_ (w12_.alloc (.cells #[.int .i64 G5.p, .int .i64 G5.c, .int .i64 G5.s, .int .i64 G5.mn, .int .i64 G5.mx, .slice Ar G5.bs.length cr] 29)) := (Below.refl _ _).alloc (Nat.le_refl _) _
  have Kx := Lib.hid (Kx.out.up hb)
  have Ky := Lib.hid (Ky.out.up hb)
  have Kz := Lib.hid (Kz.out.up hb)
  have Kl := Lib.hid (Kl.out.up hb)
  have Ks := Lib.hid (Ks.out.up hb)
  have Kt := Lib.hid (Kt.out.up hb)
  have Ku := Lib.hid (Ku.out.up hb)
  have Kv := Lib.hid (Kv.out.up hb)
  have BB := Lib.hid (BB.out.trans (hb.mono BB.out.size))
  clear hb
  generalize w12_.alloc (.cells #[.int .i64 G5.p, .int .i64 G5.c, .int .i64 G5.s, .int .i64 G5.mn, .int .i64 G5.mx, .slice Ar G5.bs.length cr] 29) = w12_x at *
  with_reducible refine (S4.out _ _ _ _ _ Ks.out.ls Kl.out.ls).mono ?_
  rintro e w13_ ⟨rfl, hb⟩
  have Kx := Lib.hid (Kx.out.up hb)
  have Ky := Lib.hid (Ky.out.up hb)
  have Kz := Lib.hid (Kz.out.up hb)
  have Kl := Lib.hid (Kl.out.up hb)
  have Ks := Lib.hid (Ks.out.up hb)
  have Kt := Lib.hid (Kt.out.up hb)
  have Ku := Lib.hid (Ku.out.up hb)
  have Kv := Lib.hid (Kv.out.up hb)
  have Kr := Lib.hid (Kr.out.up hb)
  have BB := Lib.hid (BB.out.trans (hb.mono BB.out.size))
  clear hb
  obtain ⟨t0, t1, t2, t3, t4, t5⟩ := Kt.out.box
  have tlt := Kt.out.lt
  obtain ⟨l0, l1, l2, l3, l4, l5⟩ := Kl.out.box
  have llt := Kl.out.lt
  obtain ⟨u0, u1, u2, u3, u4, u5⟩ := Ku.out.box
  have ult := Ku.out.lt
  obtain ⟨r0, r1, r2, r3, r4, r5⟩ := Kr.out.box
  have rlt := Kr.out.lt
  go_wp2_with fail
  with_reducible refine (S4.out _ _ _ _ _ Kt.out.ls Kl.out.ls).mono ?_
  clear t0 t1 t2 t3 t4 t5 tlt
  clear l0 l1 l2 l3 l4 l5 llt
  clear u0 u1 u2 u3 u4 u5 ult
  clear r0 r1 r2 r3 r4 r5 rlt
  rintro e w14_ ⟨rfl, hb⟩
  have Kx := Lib.hid (Kx.out.up hb)
  have Ky := Lib.hid (Ky.out.up hb)
  have Kz := Lib.hid (Kz.out.up hb)
  have Kl := Lib.hid (Kl.out.up hb)
  have Ks := Lib.hid (Ks.out.up hb)
  have Kt := Lib.hid (Kt.out.up hb)
  have Ku := Lib.hid (Ku.out.up hb)
  have Kv := Lib.hid (Kv.out.up hb)
  have Kr := Lib.hid (Kr.out.up hb)
  have BB := Lib.hid (BB.out.trans (hb.mono BB.out.size))
  clear hb
  obtain ⟨u0, u1, u2, u3, u4, u5⟩ := Ku.out.box
  have ult := Ku.out.lt
  obtain ⟨r0, r1, r2, r3, r4, r5⟩ := Kr.out.box
  have rlt := Kr.out.lt
  go_wp2_with fail
  with_reducible refine (S5.out _ _ _ _ _ Ku.out.ls Kr.out.ls).mono ?_
  clear u0 u1 u2 u3 u4 u5 ult
  clear r0 r1 r2 r3 r4 r5 rlt
  rintro e w15_ ⟨rfl, hb⟩
  have Kx := Lib.hid (Kx.out.up hb)
  have Ky := Lib.hid (Ky.out.up hb)
  have Kz := Lib.hid (Kz.out.up hb)
  have Kl := Lib.hid (Kl.out.up hb)
  have Ks := Lib.hid (Ks.out.up hb)
  have Kt := Lib.hid (Kt.out.up hb)
  have Ku := Lib.hid (Ku.out.up hb)
  have Kv := Lib.hid (Kv.out.up hb)
  have Kr := Lib.hid (Kr.out.up hb)
  have BB := Lib.hid (BB.out.trans (hb.mono BB.out.size))
  clear hb
  go_wp2_with fail
  with_reducible refine (KA.out _).mono ?_
  rintro e w16_ ⟨rfl, hb⟩
  have Kx := Lib.hid (Kx.out.up hb)
  have Ky := Lib.hid (Ky.out.up hb)
  have Kz := Lib.hid (Kz.out.up hb)
  have Kl := Lib.hid (Kl.out.up hb)
  have Ks := Lib.hid (Ks.out.up hb)
  have Kt := Lib.hid (Kt.out.up hb)
  have Ku := Lib.hid (Ku.out.up hb)
  have Kv := Lib.hid (Kv.out.up hb)
  have Kr := Lib.hid (Kr.out.up hb)
  have BB := Lib.hid (BB.out.trans (hb.mono BB.out.size))
  clear hb
  go_wp2
  go_ret
  exact ⟨rfl, BB.out⟩
end Go.Proofs.Ytffnopdpndpngaa.Lh
