/- Layer 12: the law LoghistAscends. -/
import Derived.Test.YtffnopdpndpngaaNe
set_option maxRecDepth 100000
set_option linter.unusedVariables false
set_option linter.unusedSimpArgs false
namespace Go.Proofs.Ytffnopdpndpngaa.Lh
open Go.RowKit
theorem rank_true {n d : Int} (h : RkOk n d) (hn : inI n) (hd : inI d) (c : Int) (h0 : 0 ≤ c) (h1 : c ≤ 1048576) (w : World) : Calls Try.prog 33 #[.agg #[.int .i64 n, .int .i64 d], .int .i64 c] w fun e w' => e = .returned (.tuple #[.int .i64 (rankN n d c), .bool true]) ∧ Below w.heap.size w w' :=
  (rank_any n d c hn hd w).mono fun e w' ⟨⟨r, he, hr⟩, hb⟩ => ⟨by rw [he, decide_eq_true h, hr h h0 h1], hb⟩
theorem rank_false {n d : Int} (h : ¬ RkOk n d) (hn : inI n) (hd : inI d) (c : Int) (w : World) : Calls Try.prog 33 #[.agg #[.int .i64 n, .int .i64 d], .int .i64 c] w fun e w' => ∃ r : Int, e = .returned (.tuple #[.int .i64 r, .bool false]) ∧ Below w.heap.size w w' :=
  (rank_any n d c hn hd w).mono fun e w' ⟨⟨r, he, hr⟩, hb⟩ => ⟨r, by rw [he, decide_eq_false h], hb⟩
theorem rkok_quant {G : H} (ok : Ok G) (hc : G.c ≠ 0) {n d : Int} (h : RkOk n d) : quantO G n d = .tuple #[.int .i64 (lowH G (qI (rankN n d G.c) G.bs)), .int .i64 (highH G (qI (rankN n d G.c) G.bs)), .int .i64 0] ∧ 1 ≤ rankN n d G.c ∧ rankN n d G.c ≤ G.c := by
  have e1 := ok.count
  have e2 := ok.tot
  have e3 := tot_nonneg ok.pos
  have hd : 0 < d := by have := h.1.1.1; omega
  refine ⟨?_, rankN_in hd h.2.1 h.2.2.1 (by omega)⟩
  rw [quant_ok ok h.1 (by have := h.2; omega) hc (fits_small hd h.2.2.2 h.2.1 h.2.2.1 (by omega)), rkQ_is hd]
theorem low_small {G : H} (ok : Ok G) (hc : G.c ≠ 0) {r : Int} (h1 : 1 ≤ r) (h2 : r ≤ G.c) : 0 ≤ lowH G (qI r G.bs) ∧ lowH G (qI r G.bs) ≤ 1099511627776 := by
  have F := ok.fit hc
  have f1 := F.mn0
  have f2 := F.le
  have f3 := F.mx
  have e1 := ok.count
  obtain ⟨⟨x, hx, ex⟩, _⟩ := qI_spec ok.asc ok.pos h1 (show r ≤ tot G.bs by omega)
  have g1 := loI_le (p := G.p) (ok.rng x hx).2.1
  unfold lowH
  rw [← ex]
  omega
set_option maxHeartbeats 4000000 in
theorem ascends_core (G : H) (A : Option Addr) (k : Nat) (hlen : G.bs.length ≤ 9223372036854775807) (hs : inI G.s) (hmn : inI G.mn) (hmx : inI G.mx) (n d : Int) (hn : inI n) (hd : inI d) (n2 d2 : Int) (hn2 : inI n2) (hd2 : inI d2) (w : World) (hA : LS w w.heap.size A G.bs) : Calls Try.prog 11 #[hV G.p G.c G.s G.mn G.mx A G.bs.length k, .agg #[.int .i64 n, .int .i64 d], .agg #[.int .i64 n2, .int .i64 d2]] w fun e w' => e = .returned (.bool true) ∧ Below w.heap.size w w' := by
  have KA := Lib.hid awake_any
  have KG := Lib.hid (fun W => grt_any G.p G.c G.s G.mn G.mx A G.bs.length k W)
  have Sx := Lib.hid hA
  clear hA
  by_cases h40 : 40 < G.bs.length
  · rw [decide_eq_true h40] at KG
    clear h40
    have BB : Hid (Below w.heap.size w w) := Below.refl _ _
    obtain ⟨V0, hV0⟩ : ∃ V, V = w.alloc (.cells #[.int .i64 G.p, .int .i64 G.c, .int .i64 G.s, .int .i64 G.mn, .int .i64 G.mx, .slice A G.bs.length k] 29) := ⟨_, rfl⟩
    have Kx : Hid (HX V0 (w.heap.size) A k G) := Lib.hid (by rw [hV0]; exact HX.new Sx.out)
    have hb : Below w.heap.size w V0 := by rw [hV0]; exact (Below.refl _ _).alloc (Nat.le_refl _) _
    have hz0 : V0.heap.size = w.heap.size + 1 := by rw [hV0]; simp only [World.size_alloc]
    have BB := Lib.hid (BB.out.trans (hb.mono BB.out.size))
    clear hb
    obtain ⟨V1, hV1⟩ : ∃ V, V = V0.alloc (.cells #[.int .i64 n, .int .i64 d] 42) := ⟨_, rfl⟩
    have Ky : Hid (RX V1 (w.heap.size + 1) n d) := Lib.hid (by rw [hV1, ← hz0]; exact RX.new _ _ _)
    have hb : Below V0.heap.size V0 V1 := by rw [hV1]; exact (Below.refl _ _).alloc (Nat.le_refl _) _
    have hz1 : V1.heap.size = w.heap.size + 1 + 1 := by rw [hV1]; simp only [World.size_alloc, hz0]
    have Kx := Lib.hid (Kx.out.up hb)
    have BB := Lib.hid (BB.out.trans (hb.mono BB.out.size))
    clear hb
    obtain ⟨V2, hV2⟩ : ∃ V, V = V1.alloc (.cells #[.int .i64 n2, .int .i64 d2] 42) := ⟨_, rfl⟩
    have Kz : Hid (RX V2 (w.heap.size + 1 + 1) n2 d2) := Lib.hid (by rw [hV2, ← hz1]; exact RX.new _ _ _)
    have hb : Below V1.heap.size V1 V2 := by rw [hV2]; exact (Below.refl _ _).alloc (Nat.le_refl _) _
    have hz2 : V2.heap.size = w.heap.size + 1 + 1 + 1 := by rw [hV2]; simp only [World.size_alloc, hz1]
    have Kx := Lib.hid (Kx.out.up hb)
    have Ky := Lib.hid (Ky.out.up hb)
    have BB := Lib.hid (BB.out.trans (hb.mono BB.out.size))
    clear hb
    have HW : Hid ((((w.alloc (.cells #[.int .i64 G.p, .int .i64 G.c, .int .i64 G.s, .int .i64 G.mn, .int .i64 G.mx, .slice A G.bs.length k] 29)).alloc (.cells #[.int .i64 n, .int .i64 d] 42)).alloc (.cells #[.int .i64 n2, .int .i64 d2] 42)) = V2) := Lib.hid (by rw [← hV0, ← hV1, ← hV2])
    clear hV0 hV1 hV2 hz0 hz1 hz2
    go_enter Try.func11, Try.ntmps11
    obtain ⟨x0, x1, x2, x3, x4, x5⟩ := Kx.out.box
    have xlt := Kx.out.lt
    obtain ⟨y0, y1⟩ := Ky.out.box
    have ylt := Ky.out.lt
    obtain ⟨z0, z1⟩ := Kz.out.box
    have zlt := Kz.out.lt
    go_wp2_with fail
    rw [HW.out]
    with_reducible refine (KG.out _).mono ?_
    clear x0 x1 x2 x3 x4 x5 xlt
    clear y0 y1 ylt
    clear z0 z1 zlt
    rintro e w1_ ⟨rfl, hb⟩
    have Kx := Lib.hid (Kx.out.up hb)
    have Ky := Lib.hid (Ky.out.up hb)
    have Kz := Lib.hid (Kz.out.up hb)
    have BB := Lib.hid (BB.out.trans (hb.mono BB.out.size))
    clear hb
    obtain ⟨x0, x1, x2, x3, x4, x5⟩ := Kx.out.box
    have xlt := Kx.out.lt
    obtain ⟨y0, y1⟩ := Ky.out.box
    have ylt := Ky.out.lt
    obtain ⟨z0, z1⟩ := Kz.out.box
    have zlt := Kz.out.lt
    go_wp2_with fail
    with_reducible refine (KA.out _).mono ?_
    clear x0 x1 x2 x3 x4 x5 xlt
    clear y0 y1 ylt
    clear z0 z1 zlt
    rintro e w2_ ⟨rfl, hb⟩
    have Kx := Lib.hid (Kx.out.up hb)
    have Ky := Lib.hid (Ky.out.up hb)
    have Kz := Lib.hid (Kz.out.up hb)
    have BB := Lib.hid (BB.out.trans (hb.mono BB.out.size))
    clear hb
    go_wp2
    go_ret
    exact ⟨rfl, BB.out⟩
  rw [decide_eq_false h40] at KG
  have hG : GI G := ⟨by omega, hs, hmn, hmx⟩
  have CK : Hid (∀ W, LS W W.heap.size A G.bs → Calls Try.prog 25 #[hV G.p G.c G.s G.mn G.mx A G.bs.length k] W fun e w' => e = .returned (.int .i64 (chk G : Nat)) ∧ Below W.heap.size W w') := Lib.hid fun W h => gCheck hG h
  by_cases h1 : chk G ≠ 0
  · have h1b : ((chk G : Nat) : Int) ≠ 0 := by omega
    have h1c : (((chk G : Nat) : Int) != 0) = true := by simpa using h1
    have h1d : (chk G != 0) = true := by simpa using h1
    generalize chk G = zz at *
    clear h40
    have BB : Hid (Below w.heap.size w w) := Below.refl _ _
    obtain ⟨V0, hV0⟩ : ∃ V, V = w.alloc (.cells #[.int .i64 G.p, .int .i64 G.c, .int .i64 G.s, .int .i64 G.mn, .int .i64 G.mx, .slice A G.bs.length k] 29) := ⟨_, rfl⟩
    have Kx : Hid (HX V0 (w.heap.size) A k G) := Lib.hid (by rw [hV0]; exact HX.new Sx.out)
    have hb : Below w.heap.size w V0 := by rw [hV0]; exact (Below.refl _ _).alloc (Nat.le_refl _) _
    have hz0 : V0.heap.size = w.heap.size + 1 := by rw [hV0]; simp only [World.size_alloc]
    have BB := Lib.hid (BB.out.trans (hb.mono BB.out.size))
    clear hb
    obtain ⟨V1, hV1⟩ : ∃ V, V = V0.alloc (.cells #[.int .i64 n, .int .i64 d] 42) := ⟨_, rfl⟩
    have Ky : Hid (RX V1 (w.heap.size + 1) n d) := Lib.hid (by rw [hV1, ← hz0]; exact RX.new _ _ _)
    have hb : Below V0.heap.size V0 V1 := by rw [hV1]; exact (Below.refl _ _).alloc (Nat.le_refl _) _
    have hz1 : V1.heap.size = w.heap.size + 1 + 1 := by rw [hV1]; simp only [World.size_alloc, hz0]
    have Kx := Lib.hid (Kx.out.up hb)
    have BB := Lib.hid (BB.out.trans (hb.mono BB.out.size))
    clear hb
    obtain ⟨V2, hV2⟩ : ∃ V, V = V1.alloc (.cells #[.int .i64 n2, .int .i64 d2] 42) := ⟨_, rfl⟩
    have Kz : Hid (RX V2 (w.heap.size + 1 + 1) n2 d2) := Lib.hid (by rw [hV2, ← hz1]; exact RX.new _ _ _)
    have hb : Below V1.heap.size V1 V2 := by rw [hV2]; exact (Below.refl _ _).alloc (Nat.le_refl _) _
    have hz2 : V2.heap.size = w.heap.size + 1 + 1 + 1 := by rw [hV2]; simp only [World.size_alloc, hz1]
    have Kx := Lib.hid (Kx.out.up hb)
    have Ky := Lib.hid (Ky.out.up hb)
    have BB := Lib.hid (BB.out.trans (hb.mono BB.out.size))
    clear hb
    have HW : Hid ((((w.alloc (.cells #[.int .i64 G.p, .int .i64 G.c, .int .i64 G.s, .int .i64 G.mn, .int .i64 G.mx, .slice A G.bs.length k] 29)).alloc (.cells #[.int .i64 n, .int .i64 d] 42)).alloc (.cells #[.int .i64 n2, .int .i64 d2] 42)) = V2) := Lib.hid (by rw [← hV0, ← hV1, ← hV2])
    clear hV0 hV1 hV2 hz0 hz1 hz2
    go_enter Try.func11, Try.ntmps11
    obtain ⟨x0, x1, x2, x3, x4, x5⟩ := Kx.out.box
    have xlt := Kx.out.lt
    obtain ⟨y0, y1⟩ := Ky.out.box
    have ylt := Ky.out.lt
    obtain ⟨z0, z1⟩ := Kz.out.box
    have zlt := Kz.out.lt
    go_wp2_with fail
    rw [HW.out]
    with_reducible refine (KG.out _).mono ?_
    clear x0 x1 x2 x3 x4 x5 xlt
    clear y0 y1 ylt
    clear z0 z1 zlt
    rintro e w1_ ⟨rfl, hb⟩
    have Kx := Lib.hid (Kx.out.up hb)
    have Ky := Lib.hid (Ky.out.up hb)
    have Kz := Lib.hid (Kz.out.up hb)
    have BB := Lib.hid (BB.out.trans (hb.mono BB.out.size))
    clear hb
    obtain ⟨x0, x1, x2, x3, x4, x5⟩ := Kx.out.box
    have xlt := Kx.out.lt
    obtain ⟨y0, y1⟩ := Ky.out.box
    have ylt := Ky.out.lt
    obtain ⟨z0, z1⟩ := Kz.out.box
    have zlt := Kz.out.lt
    go_wp2_with fail
    with_reducible refine (CK.out _ Kx.out.ls).mono ?_
    clear x0 x1 x2 x3 x4 x5 xlt
    clear y0 y1 ylt
    clear z0 z1 zlt
    rintro e w2_ ⟨rfl, hb⟩
    have Kx := Lib.hid (Kx.out.up hb)
    have Ky := Lib.hid (Ky.out.up hb)
    have Kz := Lib.hid (Kz.out.up hb)
    have BB := Lib.hid (BB.out.trans (hb.mono BB.out.size))
    clear hb
    obtain ⟨x0, x1, x2, x3, x4, x5⟩ := Kx.out.box
    have xlt := Kx.out.lt
    obtain ⟨y0, y1⟩ := Ky.out.box
    have ylt := Ky.out.lt
    obtain ⟨z0, z1⟩ := Kz.out.box
    have zlt := Kz.out.lt
    go_wp2_with fail
    with_reducible refine (KA.out _).mono ?_
    clear x0 x1 x2 x3 x4 x5 xlt
    clear y0 y1 ylt
    clear z0 z1 zlt
    rintro e w3_ ⟨rfl, hb⟩
    have Kx := Lib.hid (Kx.out.up hb)
    have Ky := Lib.hid (Ky.out.up hb)
    have Kz := Lib.hid (Kz.out.up hb)
    have BB := Lib.hid (BB.out.trans (hb.mono BB.out.size))
    clear hb
    go_wp2
    go_ret
    exact ⟨rfl, BB.out⟩
  have h1 : chk G = 0 := by omega
  have ok := chk_iff.1 h1
  rw [h1] at CK
  clear h1 h40
  by_cases hc : G.c = 0
  · have HC0 := Lib.hid hc
    clear ok hc
    have BB : Hid (Below w.heap.size w w) := Below.refl _ _
    obtain ⟨V0, hV0⟩ : ∃ V, V = w.alloc (.cells #[.int .i64 G.p, .int .i64 G.c, .int .i64 G.s, .int .i64 G.mn, .int .i64 G.mx, .slice A G.bs.length k] 29) := ⟨_, rfl⟩
    have Kx : Hid (HX V0 (w.heap.size) A k G) := Lib.hid (by rw [hV0]; exact HX.new Sx.out)
    have hb : Below w.heap.size w V0 := by rw [hV0]; exact (Below.refl _ _).alloc (Nat.le_refl _) _
    have hz0 : V0.heap.size = w.heap.size + 1 := by rw [hV0]; simp only [World.size_alloc]
    have BB := Lib.hid (BB.out.trans (hb.mono BB.out.size))
    clear hb
    obtain ⟨V1, hV1⟩ : ∃ V, V = V0.alloc (.cells #[.int .i64 n, .int .i64 d] 42) := ⟨_, rfl⟩
    have Ky : Hid (RX V1 (w.heap.size + 1) n d) := Lib.hid (by rw [hV1, ← hz0]; exact RX.new _ _ _)
    have hb : Below V0.heap.size V0 V1 := by rw [hV1]; exact (Below.refl _ _).alloc (Nat.le_refl _) _
    have hz1 : V1.heap.size = w.heap.size + 1 + 1 := by rw [hV1]; simp only [World.size_alloc, hz0]
    have Kx := Lib.hid (Kx.out.up hb)
    have BB := Lib.hid (BB.out.trans (hb.mono BB.out.size))
    clear hb
    obtain ⟨V2, hV2⟩ : ∃ V, V = V1.alloc (.cells #[.int .i64 n2, .int .i64 d2] 42) := ⟨_, rfl⟩
    have Kz : Hid (RX V2 (w.heap.size + 1 + 1) n2 d2) := Lib.hid (by rw [hV2, ← hz1]; exact RX.new _ _ _)
    have hb : Below V1.heap.size V1 V2 := by rw [hV2]; exact (Below.refl _ _).alloc (Nat.le_refl _) _
    have hz2 : V2.heap.size = w.heap.size + 1 + 1 + 1 := by rw [hV2]; simp only [World.size_alloc, hz1]
    have Kx := Lib.hid (Kx.out.up hb)
    have Ky := Lib.hid (Ky.out.up hb)
    have BB := Lib.hid (BB.out.trans (hb.mono BB.out.size))
    clear hb
    have HW : Hid ((((w.alloc (.cells #[.int .i64 G.p, .int .i64 G.c, .int .i64 G.s, .int .i64 G.mn, .int .i64 G.mx, .slice A G.bs.length k] 29)).alloc (.cells #[.int .i64 n, .int .i64 d] 42)).alloc (.cells #[.int .i64 n2, .int .i64 d2] 42)) = V2) := Lib.hid (by rw [← hV0, ← hV1, ← hV2])
    clear hV0 hV1 hV2 hz0 hz1 hz2
    go_enter Try.func11, Try.ntmps11
    obtain ⟨x0, x1, x2, x3, x4, x5⟩ := Kx.out.box
    have xlt := Kx.out.lt
    obtain ⟨y0, y1⟩ := Ky.out.box
    have ylt := Ky.out.lt
    obtain ⟨z0, z1⟩ := Kz.out.box
    have zlt := Kz.out.lt
    go_wp2_with fail
    rw [HW.out]
    with_reducible refine (KG.out _).mono ?_
    clear x0 x1 x2 x3 x4 x5 xlt
    clear y0 y1 ylt
    clear z0 z1 zlt
    rintro e w1_ ⟨rfl, hb⟩
    have Kx := Lib.hid (Kx.out.up hb)
    have Ky := Lib.hid (Ky.out.up hb)
    have Kz := Lib.hid (Kz.out.up hb)
    have BB := Lib.hid (BB.out.trans (hb.mono BB.out.size))
    clear hb
    obtain ⟨x0, x1, x2, x3, x4, x5⟩ := Kx.out.box
    have xlt := Kx.out.lt
    obtain ⟨y0, y1⟩ := Ky.out.box
    have ylt := Ky.out.lt
    obtain ⟨z0, z1⟩ := Kz.out.box
    have zlt := Kz.out.lt
    go_wp2_with fail
    with_reducible refine (CK.out _ Kx.out.ls).mono ?_
    clear x0 x1 x2 x3 x4 x5 xlt
    clear y0 y1 ylt
    clear z0 z1 zlt
    rintro e w2_ ⟨rfl, hb⟩
    have Kx := Lib.hid (Kx.out.up hb)
    have Ky := Lib.hid (Ky.out.up hb)
    have Kz := Lib.hid (Kz.out.up hb)
    have BB := Lib.hid (BB.out.trans (hb.mono BB.out.size))
    clear hb
    have hc := HC0.out
    obtain ⟨x0, x1, x2, x3, x4, x5⟩ := Kx.out.box
    have xlt := Kx.out.lt
    obtain ⟨y0, y1⟩ := Ky.out.box
    have ylt := Ky.out.lt
    obtain ⟨z0, z1⟩ := Kz.out.box
    have zlt := Kz.out.lt
    go_wp2_with fail
    with_reducible refine (KA.out _).mono ?_
    clear x0 x1 x2 x3 x4 x5 xlt
    clear y0 y1 ylt
    clear z0 z1 zlt
    rintro e w3_ ⟨rfl, hb⟩
    have Kx := Lib.hid (Kx.out.up hb)
    have Ky := Lib.hid (Ky.out.up hb)
    have Kz := Lib.hid (Kz.out.up hb)
    have BB := Lib.hid (BB.out.trans (hb.mono BB.out.size))
    clear hb
    go_wp2
    go_ret
    exact ⟨rfl, BB.out⟩
  have e1 := ok.count
  have e2 := ok.tot
  have e3 := tot_nonneg ok.pos
  by_cases r1 : ¬ RkOk n d
  · have R1 := Lib.hid (fun w => rank_false r1 hn hd G.c w)
    have R2 := Lib.hid (fun w => rank_any n2 d2 G.c hn2 hd2 w)
    clear ok e1 e2 e3 r1
    have BB : Hid (Below w.heap.size w w) := Below.refl _ _
    obtain ⟨V0, hV0⟩ : ∃ V, V = w.alloc (.cells #[.int .i64 G.p, .int .i64 G.c, .int .i64 G.s, .int .i64 G.mn, .int .i64 G.mx, .slice A G.bs.length k] 29) := ⟨_, rfl⟩
    have Kx : Hid (HX V0 (w.heap.size) A k G) := Lib.hid (by rw [hV0]; exact HX.new Sx.out)
    have hb : Below w.heap.size w V0 := by rw [hV0]; exact (Below.refl _ _).alloc (Nat.le_refl _) _
    have hz0 : V0.heap.size = w.heap.size + 1 := by rw [hV0]; simp only [World.size_alloc]
    have BB := Lib.hid (BB.out.trans (hb.mono BB.out.size))
    clear hb
    obtain ⟨V1, hV1⟩ : ∃ V, V = V0.alloc (.cells #[.int .i64 n, .int .i64 d] 42) := ⟨_, rfl⟩
    have Ky : Hid (RX V1 (w.heap.size + 1) n d) := Lib.hid (by rw [hV1, ← hz0]; exact RX.new _ _ _)
    have hb : Below V0.heap.size V0 V1 := by rw [hV1]; exact (Below.refl _ _).alloc (Nat.le_refl _) _
    have hz1 : V1.heap.size = w.heap.size + 1 + 1 := by rw [hV1]; simp only [World.size_alloc, hz0]
    have Kx := Lib.hid (Kx.out.up hb)
    have BB := Lib.hid (BB.out.trans (hb.mono BB.out.size))
    clear hb
    obtain ⟨V2, hV2⟩ : ∃ V, V = V1.alloc (.cells #[.int .i64 n2, .int .i64 d2] 42) := ⟨_, rfl⟩
    have Kz : Hid (RX V2 (w.heap.size + 1 + 1) n2 d2) := Lib.hid (by rw [hV2, ← hz1]; exact RX.new _ _ _)
    have hb : Below V1.heap.size V1 V2 := by rw [hV2]; exact (Below.refl _ _).alloc (Nat.le_refl _) _
    have hz2 : V2.heap.size = w.heap.size + 1 + 1 + 1 := by rw [hV2]; simp only [World.size_alloc, hz1]
    have Kx := Lib.hid (Kx.out.up hb)
    have Ky := Lib.hid (Ky.out.up hb)
    have BB := Lib.hid (BB.out.trans (hb.mono BB.out.size))
    clear hb
    have HW : Hid ((((w.alloc (.cells #[.int .i64 G.p, .int .i64 G.c, .int .i64 G.s, .int .i64 G.mn, .int .i64 G.mx, .slice A G.bs.length k] 29)).alloc (.cells #[.int .i64 n, .int .i64 d] 42)).alloc (.cells #[.int .i64 n2, .int .i64 d2] 42)) = V2) := Lib.hid (by rw [← hV0, ← hV1, ← hV2])
    clear hV0 hV1 hV2 hz0 hz1 hz2
    go_enter Try.func11, Try.ntmps11
    obtain ⟨x0, x1, x2, x3, x4, x5⟩ := Kx.out.box
    have xlt := Kx.out.lt
    obtain ⟨y0, y1⟩ := Ky.out.box
    have ylt := Ky.out.lt
    obtain ⟨z0, z1⟩ := Kz.out.box
    have zlt := Kz.out.lt
    go_wp2_with fail
    rw [HW.out]
    with_reducible refine (KG.out _).mono ?_
    clear x0 x1 x2 x3 x4 x5 xlt
    clear y0 y1 ylt
    clear z0 z1 zlt
    rintro e w1_ ⟨rfl, hb⟩
    have Kx := Lib.hid (Kx.out.up hb)
    have Ky := Lib.hid (Ky.out.up hb)
    have Kz := Lib.hid (Kz.out.up hb)
    have BB := Lib.hid (BB.out.trans (hb.mono BB.out.size))
    clear hb
    obtain ⟨x0, x1, x2, x3, x4, x5⟩ := Kx.out.box
    have xlt := Kx.out.lt
    obtain ⟨y0, y1⟩ := Ky.out.box
    have ylt := Ky.out.lt
    obtain ⟨z0, z1⟩ := Kz.out.box
    have zlt := Kz.out.lt
    go_wp2_with fail
    with_reducible refine (CK.out _ Kx.out.ls).mono ?_
    clear x0 x1 x2 x3 x4 x5 xlt
    clear y0 y1 ylt
    clear z0 z1 zlt
    rintro e w2_ ⟨rfl, hb⟩
    have Kx := Lib.hid (Kx.out.up hb)
    have Ky := Lib.hid (Ky.out.up hb)
    have Kz := Lib.hid (Kz.out.up hb)
    have BB := Lib.hid (BB.out.trans (hb.mono BB.out.size))
    clear hb
    obtain ⟨x0, x1, x2, x3, x4, x5⟩ := Kx.out.box
    have xlt := Kx.out.lt
    obtain ⟨y0, y1⟩ := Ky.out.box
    have ylt := Ky.out.lt
    obtain ⟨z0, z1⟩ := Kz.out.box
    have zlt := Kz.out.lt
    go_wp2_with fail
    with_reducible refine (R1.out _).mono ?_
    clear x0 x1 x2 x3 x4 x5 xlt
    clear y0 y1 ylt
    clear z0 z1 zlt
    rintro e w3_ ⟨r1_, rfl, hb⟩
    have Kx := Lib.hid (Kx.out.up hb)
    have Ky := Lib.hid (Ky.out.up hb)
    have Kz := Lib.hid (Kz.out.up hb)
    have BB := Lib.hid (BB.out.trans (hb.mono BB.out.size))
    clear hb
    obtain ⟨x0, x1, x2, x3, x4, x5⟩ := Kx.out.box
    have xlt := Kx.out.lt
    obtain ⟨y0, y1⟩ := Ky.out.box
    have ylt := Ky.out.lt
    obtain ⟨z0, z1⟩ := Kz.out.box
    have zlt := Kz.out.lt
    go_wp2_with fail
    with_reducible refine (R2.out _).mono ?_
    clear x0 x1 x2 x3 x4 x5 xlt
    clear y0 y1 ylt
    clear z0 z1 zlt
    rintro e w4_ ⟨⟨r2_, rfl, -⟩, hb⟩
    have Kx := Lib.hid (Kx.out.up hb)
    have Ky := Lib.hid (Ky.out.up hb)
    have Kz := Lib.hid (Kz.out.up hb)
    have BB := Lib.hid (BB.out.trans (hb.mono BB.out.size))
    clear hb
    obtain ⟨x0, x1, x2, x3, x4, x5⟩ := Kx.out.box
    have xlt := Kx.out.lt
    obtain ⟨y0, y1⟩ := Ky.out.box
    have ylt := Ky.out.lt
    obtain ⟨z0, z1⟩ := Kz.out.box
    have zlt := Kz.out.lt
    go_wp2_with fail
    with_reducible refine (KA.out _).mono ?_
    clear x0 x1 x2 x3 x4 x5 xlt
    clear y0 y1 ylt
    clear z0 z1 zlt
    rintro e w5_ ⟨rfl, hb⟩
    have Kx := Lib.hid (Kx.out.up hb)
    have Ky := Lib.hid (Ky.out.up hb)
    have Kz := Lib.hid (Kz.out.up hb)
    have BB := Lib.hid (BB.out.trans (hb.mono BB.out.size))
    clear hb
    go_wp2
    go_ret
    exact ⟨rfl, BB.out⟩
  have r1 : RkOk n d := Decidable.not_not.1 r1
  have R1 := Lib.hid (fun w => rank_true r1 hn hd G.c (by omega) (by omega) w)
  by_cases r2 : ¬ RkOk n2 d2
  · have R2 := Lib.hid (fun w => rank_false r2 hn2 hd2 G.c w)
    clear ok e1 e2 e3 r1 r2
    have BB : Hid (Below w.heap.size w w) := Below.refl _ _
    obtain ⟨V0, hV0⟩ : ∃ V, V = w.alloc (.cells #[.int .i64 G.p, .int .i64 G.c, .int .i64 G.s, .int .i64 G.mn, .int .i64 G.mx, .slice A G.bs.length k] 29) := ⟨_, rfl⟩
    have Kx : Hid (HX V0 (w.heap.size) A k G) := Lib.hid (by rw [hV0]; exact HX.new Sx.out)
    have hb : Below w.heap.size w V0 := by rw [hV0]; exact (Below.refl _ _).alloc (Nat.le_refl _) _
    have hz0 : V0.heap.size = w.heap.size + 1 := by rw [hV0]; simp only [World.size_alloc]
    have BB := Lib.hid (BB.out.trans (hb.mono BB.out.size))
    clear hb
    obtain ⟨V1, hV1⟩ : ∃ V, V = V0.alloc (.cells #[.int .i64 n, .int .i64 d] 42) := ⟨_, rfl⟩
    have Ky : Hid (RX V1 (w.heap.size + 1) n d) := Lib.hid (by rw [hV1, ← hz0]; exact RX.new _ _ _)
    have hb : Below V0.heap.size V0 V1 := by rw [hV1]; exact (Below.refl _ _).alloc (Nat.le_refl _) _
    have hz1 : V1.heap.size = w.heap.size + 1 + 1 := by rw [hV1]; simp only [World.size_alloc, hz0]
    have Kx := Lib.hid (Kx.out.up hb)
    have BB := Lib.hid (BB.out.trans (hb.mono BB.out.size))
    clear hb
    obtain ⟨V2, hV2⟩ : ∃ V, V = V1.alloc (.cells #[.int .i64 n2, .int .i64 d2] 42) := ⟨_, rfl⟩
    have Kz : Hid (RX V2 (w.heap.size + 1 + 1) n2 d2) := Lib.hid (by rw [hV2, ← hz1]; exact RX.new _ _ _)
    have hb : Below V1.heap.size V1 V2 := by rw [hV2]; exact (Below.refl _ _).alloc (Nat.le_refl _) _
    have hz2 : V2.heap.size = w.heap.size + 1 + 1 + 1 := by rw [hV2]; simp only [World.size_alloc, hz1]
    have Kx := Lib.hid (Kx.out.up hb)
    have Ky := Lib.hid (Ky.out.up hb)
    have BB := Lib.hid (BB.out.trans (hb.mono BB.out.size))
    clear hb
    have HW : Hid ((((w.alloc (.cells #[.int .i64 G.p, .int .i64 G.c, .int .i64 G.s, .int .i64 G.mn, .int .i64 G.mx, .slice A G.bs.length k] 29)).alloc (.cells #[.int .i64 n, .int .i64 d] 42)).alloc (.cells #[.int .i64 n2, .int .i64 d2] 42)) = V2) := Lib.hid (by rw [← hV0, ← hV1, ← hV2])
    clear hV0 hV1 hV2 hz0 hz1 hz2
    go_enter Try.func11, Try.ntmps11
    obtain ⟨x0, x1, x2, x3, x4, x5⟩ := Kx.out.box
    have xlt := Kx.out.lt
    obtain ⟨y0, y1⟩ := Ky.out.box
    have ylt := Ky.out.lt
    obtain ⟨z0, z1⟩ := Kz.out.box
    have zlt := Kz.out.lt
    go_wp2_with fail
    rw [HW.out]
    with_reducible refine (KG.out _).mono ?_
    clear x0 x1 x2 x3 x4 x5 xlt
    clear y0 y1 ylt
    clear z0 z1 zlt
    rintro e w1_ ⟨rfl, hb⟩
    have Kx := Lib.hid (Kx.out.up hb)
    have Ky := Lib.hid (Ky.out.up hb)
    have Kz := Lib.hid (Kz.out.up hb)
    have BB := Lib.hid (BB.out.trans (hb.mono BB.out.size))
    clear hb
    obtain ⟨x0, x1, x2, x3, x4, x5⟩ := Kx.out.box
    have xlt := Kx.out.lt
    obtain ⟨y0, y1⟩ := Ky.out.box
    have ylt := Ky.out.lt
    obtain ⟨z0, z1⟩ := Kz.out.box
    have zlt := Kz.out.lt
    go_wp2_with fail
    with_reducible refine (CK.out _ Kx.out.ls).mono ?_
    clear x0 x1 x2 x3 x4 x5 xlt
    clear y0 y1 ylt
    clear z0 z1 zlt
    rintro e w2_ ⟨rfl, hb⟩
    have Kx := Lib.hid (Kx.out.up hb)
    have Ky := Lib.hid (Ky.out.up hb)
    have Kz := Lib.hid (Kz.out.up hb)
    have BB := Lib.hid (BB.out.trans (hb.mono BB.out.size))
    clear hb
    obtain ⟨x0, x1, x2, x3, x4, x5⟩ := Kx.out.box
    have xlt := Kx.out.lt
    obtain ⟨y0, y1⟩ := Ky.out.box
    have ylt := Ky.out.lt
    obtain ⟨z0, z1⟩ := Kz.out.box
    have zlt := Kz.out.lt
    go_wp2_with fail
    with_reducible refine (R1.out _).mono ?_
    clear x0 x1 x2 x3 x4 x5 xlt
    clear y0 y1 ylt
    clear z0 z1 zlt
    rintro e w3_ ⟨rfl, hb⟩
    have Kx := Lib.hid (Kx.out.up hb)
    have Ky := Lib.hid (Ky.out.up hb)
    have Kz := Lib.hid (Kz.out.up hb)
    have BB := Lib.hid (BB.out.trans (hb.mono BB.out.size))
    clear hb
    obtain ⟨x0, x1, x2, x3, x4, x5⟩ := Kx.out.box
    have xlt := Kx.out.lt
    obtain ⟨y0, y1⟩ := Ky.out.box
    have ylt := Ky.out.lt
    obtain ⟨z0, z1⟩ := Kz.out.box
    have zlt := Kz.out.lt
    go_wp2_with fail
    with_reducible refine (R2.out _).mono ?_
    clear x0 x1 x2 x3 x4 x5 xlt
    clear y0 y1 ylt
    clear z0 z1 zlt
    rintro e w4_ ⟨r2_, rfl, hb⟩
    have Kx := Lib.hid (Kx.out.up hb)
    have Ky := Lib.hid (Ky.out.up hb)
    have Kz := Lib.hid (Kz.out.up hb)
    have BB := Lib.hid (BB.out.trans (hb.mono BB.out.size))
    clear hb
    obtain ⟨x0, x1, x2, x3, x4, x5⟩ := Kx.out.box
    have xlt := Kx.out.lt
    obtain ⟨y0, y1⟩ := Ky.out.box
    have ylt := Ky.out.lt
    obtain ⟨z0, z1⟩ := Kz.out.box
    have zlt := Kz.out.lt
    go_wp2_with fail
    with_reducible refine (KA.out _).mono ?_
    clear x0 x1 x2 x3 x4 x5 xlt
    clear y0 y1 ylt
    clear z0 z1 zlt
    rintro e w5_ ⟨rfl, hb⟩
    have Kx := Lib.hid (Kx.out.up hb)
    have Ky := Lib.hid (Ky.out.up hb)
    have Kz := Lib.hid (Kz.out.up hb)
    have BB := Lib.hid (BB.out.trans (hb.mono BB.out.size))
    clear hb
    go_wp2
    go_ret
    exact ⟨rfl, BB.out⟩
  have r2 : RkOk n2 d2 := Decidable.not_not.1 r2
  have R2 := Lib.hid (fun w => rank_true r2 hn2 hd2 G.c (by omega) (by omega) w)
  obtain ⟨q1, q2, q3⟩ := rkok_quant ok hc r1
  obtain ⟨p1, p2, p3⟩ := rkok_quant ok hc r2
  obtain ⟨a1, a2, a3⟩ := agrees ok hc q2 q3
  have a4 := low_small ok hc q2 q3
  have a5 : rankN n d G.c ≤ rankN n2 d2 G.c → _ := fun h => ascends ok hc q2 h p3
  have hk := chk_iff.2 ok
  have Q1 : Hid (∀ W, LS W W.heap.size A G.bs → Calls Try.prog 29 #[hV G.p G.c G.s G.mn G.mx A G.bs.length k, .agg #[.int .i64 n, .int .i64 d]] W fun e w' => e = .returned (.tuple #[.int .i64 (lowH G (qI (rankN n d G.c) G.bs)), .int .i64 (highH G (qI (rankN n d G.c) G.bs)), .int .i64 0]) ∧ Below W.heap.size W w') := Lib.hid fun W h => by
    have C := gQuantile (c := k) hG n d hn hd h
    rwa [q1] at C
  have Q2 : Hid (∀ W, LS W W.heap.size A G.bs → Calls Try.prog 29 #[hV G.p G.c G.s G.mn G.mx A G.bs.length k, .agg #[.int .i64 n2, .int .i64 d2]] W fun e w' => e = .returned (.tuple #[.int .i64 (lowH G (qI (rankN n2 d2 G.c) G.bs)), .int .i64 (highH G (qI (rankN n2 d2 G.c) G.bs)), .int .i64 0]) ∧ Below W.heap.size W w') := Lib.hid fun W h => by
    have C := gQuantile (c := k) hG n2 d2 hn2 hd2 h
    rwa [p1] at C
  have K1 : Hid (∀ W, LS W W.heap.size A G.bs → Calls Try.prog 31 #[hV G.p G.c G.s G.mn G.mx A G.bs.length k, .int .i64 (highH G (qI (rankN n d G.c) G.bs))] W fun e w' => e = .returned (.tuple #[.int .i64 (sureH G (highH G (qI (rankN n d G.c) G.bs))), .int .i64 (possH G (highH G (qI (rankN n d G.c) G.bs))), .int .i64 0]) ∧ Below W.heap.size W w') := Lib.hid fun W h => by
    have C := gRank (c := k) hG (highH G (qI (rankN n d G.c) G.bs)) h
    rw [rankO, if_neg (by omega)] at C
    exact C
  have K2 : Hid (∀ W, LS W W.heap.size A G.bs → Calls Try.prog 31 #[hV G.p G.c G.s G.mn G.mx A G.bs.length k, .int .i64 (lowH G (qI (rankN n d G.c) G.bs) - 1)] W fun e w' => e = .returned (.tuple #[.int .i64 (sureH G (lowH G (qI (rankN n d G.c) G.bs) - 1)), .int .i64 (possH G (lowH G (qI (rankN n d G.c) G.bs) - 1)), .int .i64 0]) ∧ Below W.heap.size W w') := Lib.hid fun W h => by
    have C := gRank (c := k) hG (lowH G (qI (rankN n d G.c) G.bs) - 1) h
    rw [rankO, if_neg (by omega)] at C
    exact C
  clear q1 p1 hk ok r1 r2
  generalize sureH G (highH G (qI (rankN n d G.c) G.bs)) = S1 at *
  generalize possH G (highH G (qI (rankN n d G.c) G.bs)) = T1 at *
  generalize sureH G (lowH G (qI (rankN n d G.c) G.bs) - 1) = S2 at *
  generalize possH G (lowH G (qI (rankN n d G.c) G.bs) - 1) = T2 at *
  generalize lowH G (qI (rankN n d G.c) G.bs) = L1 at *
  generalize highH G (qI (rankN n d G.c) G.bs) = H1 at *
  generalize lowH G (qI (rankN n2 d2 G.c) G.bs) = L2 at *
  generalize highH G (qI (rankN n2 d2 G.c) G.bs) = H2 at *
  generalize rankN n d G.c = N at *
  generalize rankN n2 d2 G.c = M at *
  have hw : wrap64 (L1 - 1) = L1 - 1 := wrap_in (by omega)
  have A5 := Lib.hid a5
  clear a5 e1 e2 e3
  have BB : Hid (Below w.heap.size w w) := Below.refl _ _
  obtain ⟨V0, hV0⟩ : ∃ V, V = w.alloc (.cells #[.int .i64 G.p, .int .i64 G.c, .int .i64 G.s, .int .i64 G.mn, .int .i64 G.mx, .slice A G.bs.length k] 29) := ⟨_, rfl⟩
  have Kx : Hid (HX V0 (w.heap.size) A k G) := Lib.hid (by rw [hV0]; exact HX.new Sx.out)
  have hb : Below w.heap.size w V0 := by rw [hV0]; exact (Below.refl _ _).alloc (Nat.le_refl _) _
  have hz0 : V0.heap.size = w.heap.size + 1 := by rw [hV0]; simp only [World.size_alloc]
  have BB := Lib.hid (BB.out.trans (hb.mono BB.out.size))
  clear hb
  obtain ⟨V1, hV1⟩ : ∃ V, V = V0.alloc (.cells #[.int .i64 n, .int .i64 d] 42) := ⟨_, rfl⟩
  have Ky : Hid (RX V1 (w.heap.size + 1) n d) := Lib.hid (by rw [hV1, ← hz0]; exact RX.new _ _ _)
  have hb : Below V0.heap.size V0 V1 := by rw [hV1]; exact (Below.refl _ _).alloc (Nat.le_refl _) _
  have hz1 : V1.heap.size = w.heap.size + 1 + 1 := by rw [hV1]; simp only [World.size_alloc, hz0]
  have Kx := Lib.hid (Kx.out.up hb)
  have BB := Lib.hid (BB.out.trans (hb.mono BB.out.size))
  clear hb
  obtain ⟨V2, hV2⟩ : ∃ V, V = V1.alloc (.cells #[.int .i64 n2, .int .i64 d2] 42) := ⟨_, rfl⟩
  have Kz : Hid (RX V2 (w.heap.size + 1 + 1) n2 d2) := Lib.hid (by rw [hV2, ← hz1]; exact RX.new _ _ _)
  have hb : Below V1.heap.size V1 V2 := by rw [hV2]; exact (Below.refl _ _).alloc (Nat.le_refl _) _
  have hz2 : V2.heap.size = w.heap.size + 1 + 1 + 1 := by rw [hV2]; simp only [World.size_alloc, hz1]
  have Kx := Lib.hid (Kx.out.up hb)
  have Ky := Lib.hid (Ky.out.up hb)
  have BB := Lib.hid (BB.out.trans (hb.mono BB.out.size))
  clear hb
  have HW : Hid ((((w.alloc (.cells #[.int .i64 G.p, .int .i64 G.c, .int .i64 G.s, .int .i64 G.mn, .int .i64 G.mx, .slice A G.bs.length k] 29)).alloc (.cells #[.int .i64 n, .int .i64 d] 42)).alloc (.cells #[.int .i64 n2, .int .i64 d2] 42)) = V2) := Lib.hid (by rw [← hV0, ← hV1, ← hV2])
  clear hV0 hV1 hV2 hz0 hz1 hz2
  go_enter Try.func11, Try.ntmps11
  obtain ⟨x0, x1, x2, x3, x4, x5⟩ := Kx.out.box
  have xlt := Kx.out.lt
  obtain ⟨y0, y1⟩ := Ky.out.box
  have ylt := Ky.out.lt
  obtain ⟨z0, z1⟩ := Kz.out.box
  have zlt := Kz.out.lt
  go_wp2_with fail
  rw [HW.out]
  with_reducible refine (KG.out _).mono ?_
  clear x0 x1 x2 x3 x4 x5 xlt
  clear y0 y1 ylt
  clear z0 z1 zlt
  rintro e w1_ ⟨rfl, hb⟩
  have Kx := Lib.hid (Kx.out.up hb)
  have Ky := Lib.hid (Ky.out.up hb)
  have Kz := Lib.hid (Kz.out.up hb)
  have BB := Lib.hid (BB.out.trans (hb.mono BB.out.size))
  clear hb
  obtain ⟨x0, x1, x2, x3, x4, x5⟩ := Kx.out.box
  have xlt := Kx.out.lt
  obtain ⟨y0, y1⟩ := Ky.out.box
  have ylt := Ky.out.lt
  obtain ⟨z0, z1⟩ := Kz.out.box
  have zlt := Kz.out.lt
  go_wp2_with fail
  with_reducible refine (CK.out _ Kx.out.ls).mono ?_
  clear x0 x1 x2 x3 x4 x5 xlt
  clear y0 y1 ylt
  clear z0 z1 zlt
  rintro e w2_ ⟨rfl, hb⟩
  have Kx := Lib.hid (Kx.out.up hb)
  have Ky := Lib.hid (Ky.out.up hb)
  have Kz := Lib.hid (Kz.out.up hb)
  have BB := Lib.hid (BB.out.trans (hb.mono BB.out.size))
  clear hb
  obtain ⟨x0, x1, x2, x3, x4, x5⟩ := Kx.out.box
  have xlt := Kx.out.lt
  obtain ⟨y0, y1⟩ := Ky.out.box
  have ylt := Ky.out.lt
  obtain ⟨z0, z1⟩ := Kz.out.box
  have zlt := Kz.out.lt
  go_wp2_with fail
  with_reducible refine (R1.out _).mono ?_
  clear x0 x1 x2 x3 x4 x5 xlt
  clear y0 y1 ylt
  clear z0 z1 zlt
  rintro e w3_ ⟨rfl, hb⟩
  have Kx := Lib.hid (Kx.out.up hb)
  have Ky := Lib.hid (Ky.out.up hb)
  have Kz := Lib.hid (Kz.out.up hb)
  have BB := Lib.hid (BB.out.trans (hb.mono BB.out.size))
  clear hb
  obtain ⟨x0, x1, x2, x3, x4, x5⟩ := Kx.out.box
  have xlt := Kx.out.lt
  obtain ⟨y0, y1⟩ := Ky.out.box
  have ylt := Ky.out.lt
  obtain ⟨z0, z1⟩ := Kz.out.box
  have zlt := Kz.out.lt
  go_wp2_with fail
  with_reducible refine (R2.out _).mono ?_
  clear x0 x1 x2 x3 x4 x5 xlt
  clear y0 y1 ylt
  clear z0 z1 zlt
  rintro e w4_ ⟨rfl, hb⟩
  have Kx := Lib.hid (Kx.out.up hb)
  have Ky := Lib.hid (Ky.out.up hb)
  have Kz := Lib.hid (Kz.out.up hb)
  have BB := Lib.hid (BB.out.trans (hb.mono BB.out.size))
  clear hb
  obtain ⟨x0, x1, x2, x3, x4, x5⟩ := Kx.out.box
  have xlt := Kx.out.lt
  obtain ⟨y0, y1⟩ := Ky.out.box
  have ylt := Ky.out.lt
  obtain ⟨z0, z1⟩ := Kz.out.box
  have zlt := Kz.out.lt
  go_wp2_with fail
  with_reducible refine (Q1.out _ Kx.out.ls).mono ?_
  clear x0 x1 x2 x3 x4 x5 xlt
  clear y0 y1 ylt
  clear z0 z1 zlt
  rintro e w5_ ⟨rfl, hb⟩
  have Kx := Lib.hid (Kx.out.up hb)
  have Ky := Lib.hid (Ky.out.up hb)
  have Kz := Lib.hid (Kz.out.up hb)
  have BB := Lib.hid (BB.out.trans (hb.mono BB.out.size))
  clear hb
  obtain ⟨x0, x1, x2, x3, x4, x5⟩ := Kx.out.box
  have xlt := Kx.out.lt
  obtain ⟨y0, y1⟩ := Ky.out.box
  have ylt := Ky.out.lt
  obtain ⟨z0, z1⟩ := Kz.out.box
  have zlt := Kz.out.lt
  go_wp2_with fail
  with_reducible refine (Q2.out _ Kx.out.ls).mono ?_
  clear x0 x1 x2 x3 x4 x5 xlt
  clear y0 y1 ylt
  clear z0 z1 zlt
  rintro e w6_ ⟨rfl, hb⟩
  have Kx := Lib.hid (Kx.out.up hb)
  have Ky := Lib.hid (Ky.out.up hb)
  have Kz := Lib.hid (Kz.out.up hb)
  have BB := Lib.hid (BB.out.trans (hb.mono BB.out.size))
  clear hb
  obtain ⟨x0, x1, x2, x3, x4, x5⟩ := Kx.out.box
  have xlt := Kx.out.lt
  obtain ⟨y0, y1⟩ := Ky.out.box
  have ylt := Ky.out.lt
  obtain ⟨z0, z1⟩ := Kz.out.box
  have zlt := Kz.out.lt
  go_wp2_with fail
  with_reducible refine (K1.out _ Kx.out.ls).mono ?_
  clear x0 x1 x2 x3 x4 x5 xlt
  clear y0 y1 ylt
  clear z0 z1 zlt
  rintro e w7_ ⟨rfl, hb⟩
  have Kx := Lib.hid (Kx.out.up hb)
  have Ky := Lib.hid (Ky.out.up hb)
  have Kz := Lib.hid (Kz.out.up hb)
  have BB := Lib.hid (BB.out.trans (hb.mono BB.out.size))
  clear hb
  obtain ⟨x0, x1, x2, x3, x4, x5⟩ := Kx.out.box
  have xlt := Kx.out.lt
  obtain ⟨y0, y1⟩ := Ky.out.box
  have ylt := Ky.out.lt
  obtain ⟨z0, z1⟩ := Kz.out.box
  have zlt := Kz.out.lt
  go_wp2_with fail
  with_reducible refine (K2.out _ Kx.out.ls).mono ?_
  clear x0 x1 x2 x3 x4 x5 xlt
  clear y0 y1 ylt
  clear z0 z1 zlt
  rintro e w8_ ⟨rfl, hb⟩
  have Kx := Lib.hid (Kx.out.up hb)
  have Ky := Lib.hid (Ky.out.up hb)
  have Kz := Lib.hid (Kz.out.up hb)
  have BB := Lib.hid (BB.out.trans (hb.mono BB.out.size))
  clear hb
  by_cases hN : M < N
  · skip
    obtain ⟨x0, x1, x2, x3, x4, x5⟩ := Kx.out.box
    have xlt := Kx.out.lt
    obtain ⟨y0, y1⟩ := Ky.out.box
    have ylt := Ky.out.lt
    obtain ⟨z0, z1⟩ := Kz.out.box
    have zlt := Kz.out.lt
    go_wp2_with fail
    with_reducible refine (KA.out _).mono ?_
    clear x0 x1 x2 x3 x4 x5 xlt
    clear y0 y1 ylt
    clear z0 z1 zlt
    rintro e w9_ ⟨rfl, hb⟩
    have Kx := Lib.hid (Kx.out.up hb)
    have Ky := Lib.hid (Ky.out.up hb)
    have Kz := Lib.hid (Kz.out.up hb)
    have BB := Lib.hid (BB.out.trans (hb.mono BB.out.size))
    clear hb
    go_wp2
    go_ret
    exact ⟨rfl, BB.out⟩
  · obtain ⟨b1, b2⟩ := A5.out (by omega)
    obtain ⟨x0, x1, x2, x3, x4, x5⟩ := Kx.out.box
    have xlt := Kx.out.lt
    obtain ⟨y0, y1⟩ := Ky.out.box
    have ylt := Ky.out.lt
    obtain ⟨z0, z1⟩ := Kz.out.box
    have zlt := Kz.out.lt
    go_wp2_with fail
    with_reducible refine (KA.out _).mono ?_
    clear x0 x1 x2 x3 x4 x5 xlt
    clear y0 y1 ylt
    clear z0 z1 zlt
    rintro e w9_ ⟨rfl, hb⟩
    have Kx := Lib.hid (Kx.out.up hb)
    have Ky := Lib.hid (Ky.out.up hb)
    have Kz := Lib.hid (Kz.out.up hb)
    have BB := Lib.hid (BB.out.trans (hb.mono BB.out.size))
    clear hb
    go_wp2
    go_ret
    exact ⟨rfl, BB.out⟩
theorem ascends_walk (p c s mn mx : Int) (A : Option Addr) (k : Nat) (l : List B) (hlen : l.length ≤ 9223372036854775807) (hs : inI s) (hmn : inI mn) (hmx : inI mx) (n d : Int) (hn : inI n) (hd : inI d) (n2 d2 : Int) (hn2 : inI n2) (hd2 : inI d2) (w : World) (hA : LS w w.heap.size A l) : Calls Try.prog 11 #[hV p c s mn mx A l.length k, .agg #[.int .i64 n, .int .i64 d], .agg #[.int .i64 n2, .int .i64 d2]] w fun e w' => e = .returned (.bool true) ∧ Below w.heap.size w w' :=
  ascends_core ⟨p, c, s, mn, mx, l⟩ A k hlen hs hmn hmx n d hn hd n2 d2 hn2 hd2 w hA
end Go.Proofs.Ytffnopdpndpngaa.Lh
