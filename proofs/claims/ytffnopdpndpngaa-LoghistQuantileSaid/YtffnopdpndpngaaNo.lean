/- Layer 12: the law LoghistQuantile. -/
import Derived.Test.YtffnopdpndpngaaNe
import Derived.Test.YtffnopdpndpngaaLiK
import Derived.Test.YtffnopdpndpngaaLiL
set_option maxRecDepth 100000
set_option linter.unusedVariables false
set_option linter.unusedSimpArgs false
namespace Go.Proofs.Ytffnopdpndpngaa.Lh
open Go.RowKit
theorem quant_three (G : H) (n d : Int) : ∃ x y z : Int, quantO G n d = .tuple #[.int .i64 x, .int .i64 y, .int .i64 z] := by
  unfold quantO
  split
  · exact ⟨_, _, _, rfl⟩
  split
  · exact ⟨_, _, _, rfl⟩
  split
  · exact ⟨_, _, _, rfl⟩
  split
  · exact ⟨_, _, _, rfl⟩
  · exact ⟨_, _, _, rfl⟩
theorem rank_three (G : H) (v : Int) : ∃ x y z : Int, rankO G v = .tuple #[.int .i64 x, .int .i64 y, .int .i64 z] := by
  unfold rankO
  split
  · exact ⟨_, _, _, rfl⟩
  · exact ⟨_, _, _, rfl⟩
set_option maxHeartbeats 4000000 in
theorem quantile_core (G : H) (A : Option Addr) (k : Nat) (hlen : G.bs.length ≤ 9223372036854775807) (hs : inI G.s) (hmn : inI G.mn) (hmx : inI G.mx) (n d : Int) (hn : inI n) (hd : inI d) (x : Int) (w : World) (hA : LS w w.heap.size A G.bs) : Calls Try.prog 6 #[hV G.p G.c G.s G.mn G.mx A G.bs.length k, .agg #[.int .i64 n, .int .i64 d], .int .i64 x] w fun e w' => e = .returned (.bool true) ∧ Below w.heap.size w w' := by
  have KA := Lib.hid awake_any
  have KG := Lib.hid (fun W => grt_any G.p G.c G.s G.mn G.mx A G.bs.length k W)
  have Sx := Lib.hid hA
  clear hA
  by_cases h40 : 40 < G.bs.length
  · rw [decide_eq_true h40] at KG
    clear h40
    have BB : Hid (Below w.heap.size w w) := Below.refl _ _
    obtain ⟨V0, hV0⟩ : ∃ V, V = w.alloc (.cells #[.int .i64 G.p, .int .i64 G.c, .int .i64 G.s, .int .i64 G.mn, .int .i64 G.mx, .slice A G.bs.length k] 29) := ⟨_, rfl⟩
    have Kx : Hid (HX V0 (w.heap.size) A k G) := Lib.hid (by rw [hV0]; exact HX.new Sx.out)
    have hb : Below w.heap.size w V0 := by rw [hV0]; exact (Below.refl _ _).alloc (Nat.le_refl _) _
    have hz0 : V0.heap.size = w.heap.size + 1 := by rw [hV0]; simp only [World.size_alloc]
    have BB := Lib.hid (BB.out.trans (hb.mono BB.out.size))
    clear hb
    obtain ⟨V1, hV1⟩ : ∃ V, V = V0.alloc (.cells #[.int .i64 n, .int .i64 d] 42) := ⟨_, rfl⟩
    have Ky : Hid (RX V1 (w.heap.size + 1) n d) := Lib.hid (by rw [hV1, ← hz0]; exact RX.new _ _ _)
    have hb : Below V0.heap.size V0 V1 := by rw [hV1]; exact (Below.refl _ _).alloc (Nat.le_refl _) _
    have hz1 : V1.heap.size = w.heap.size + 1 + 1 := by rw [hV1]; simp only [World.size_alloc, hz0]
    have Kx := Lib.hid (Kx.out.up hb)
    have BB := Lib.hid (BB.out.trans (hb.mono BB.out.size))
    clear hb
    have HW : Hid (((w.alloc (.cells #[.int .i64 G.p, .int .i64 G.c, .int .i64 G.s, .int .i64 G.mn, .int .i64 G.mx, .slice A G.bs.length k] 29)).alloc (.cells #[.int .i64 n, .int .i64 d] 42)) = V1) := Lib.hid (by rw [← hV0, ← hV1])
    clear hV0 hV1 hz0 hz1
    go_enter Try.func6, Try.ntmps6
    obtain ⟨x0, x1, x2, x3, x4, x5⟩ := Kx.out.box
    have xlt := Kx.out.lt
    obtain ⟨y0, y1⟩ := Ky.out.box
    have ylt := Ky.out.lt
    go_wp2_with fail
    rw [HW.out]
    with_reducible refine (KG.out _).mono ?_
    clear x0 x1 x2 x3 x4 x5 xlt
    clear y0 y1 ylt
    rintro e w1_ ⟨rfl, hb⟩
    have Kx := Lib.hid (Kx.out.up hb)
    have Ky := Lib.hid (Ky.out.up hb)
    have BB := Lib.hid (BB.out.trans (hb.mono BB.out.size))
    clear hb
    obtain ⟨x0, x1, x2, x3, x4, x5⟩ := Kx.out.box
    have xlt := Kx.out.lt
    obtain ⟨y0, y1⟩ := Ky.out.box
    have ylt := Ky.out.lt
    go_wp2_with fail
    with_reducible refine (KA.out _).mono ?_
    clear x0 x1 x2 x3 x4 x5 xlt
    clear y0 y1 ylt
    rintro e w2_ ⟨rfl, hb⟩
    have Kx := Lib.hid (Kx.out.up hb)
    have Ky := Lib.hid (Ky.out.up hb)
    have BB := Lib.hid (BB.out.trans (hb.mono BB.out.size))
    clear hb
    go_wp2
    go_ret
    exact ⟨rfl, BB.out⟩
  rw [decide_eq_false h40] at KG
  have hG : GI G := ⟨by omega, hs, hmn, hmx⟩
  obtain ⟨q1, q2, q3, hq⟩ := quant_three G n d
  obtain ⟨r1, r2, r3, hr⟩ := rank_three G x
  have HQ1 : Hid (∀ W, LS W W.heap.size A G.bs → Calls Try.prog 29 #[hV G.p G.c G.s G.mn G.mx A G.bs.length k, .agg #[.int .i64 n, .int .i64 d]] W fun e w' => e = .returned (.tuple #[.int .i64 q1, .int .i64 q2, .int .i64 q3]) ∧ Below W.heap.size W w') := Lib.hid fun W h => by
    have C := gQuantile (c := k) hG n d hn hd h
    rwa [hq] at C
  have HQ2 : Hid (∀ W, LS W W.heap.size A G.bs → Calls Try.prog 30 #[hV G.p G.c G.s G.mn G.mx A G.bs.length k, .agg #[.int .i64 n, .int .i64 d]] W fun e w' => e = .returned (.tuple #[.int .i64 q1, .int .i64 q2, .int .i64 q3]) ∧ Below W.heap.size W w') := Lib.hid fun W h => by
    have C := refQuantile_any G n d hn hd (by omega) A k W h
    rwa [hq] at C
  have HR1 : Hid (∀ W, LS W W.heap.size A G.bs → Calls Try.prog 31 #[hV G.p G.c G.s G.mn G.mx A G.bs.length k, .int .i64 x] W fun e w' => e = .returned (.tuple #[.int .i64 r1, .int .i64 r2, .int .i64 r3]) ∧ Below W.heap.size W w') := Lib.hid fun W h => by
    have C := gRank (c := k) hG x h
    rwa [hr] at C
  have HR2 : Hid (∀ W, LS W W.heap.size A G.bs → Calls Try.prog 32 #[hV G.p G.c G.s G.mn G.mx A G.bs.length k, .int .i64 x] W fun e w' => e = .returned (.tuple #[.int .i64 r1, .int .i64 r2, .int .i64 r3]) ∧ Below W.heap.size W w') := Lib.hid fun W h => by
    have C := refRank_any G x (by omega) A k W h
    rwa [hr] at C
  clear h40 hq hr hG
  have BB : Hid (Below w.heap.size w w) := Below.refl _ _
  obtain ⟨V0, hV0⟩ : ∃ V, V = w.alloc (.cells #[.int .i64 G.p, .int .i64 G.c, .int .i64 G.s, .int .i64 G.mn, .int .i64 G.mx, .slice A G.bs.length k] 29) := ⟨_, rfl⟩
  have Kx : Hid (HX V0 (w.heap.size) A k G) := Lib.hid (by rw [hV0]; exact HX.new Sx.out)
  have hb : Below w.heap.size w V0 := by rw [hV0]; exact (Below.refl _ _).alloc (Nat.le_refl _) _
  have hz0 : V0.heap.size = w.heap.size + 1 := by rw [hV0]; simp only [World.size_alloc]
  have BB := Lib.hid (BB.out.trans (hb.mono BB.out.size))
  clear hb
  obtain ⟨V1, hV1⟩ : ∃ V, V = V0.alloc (.cells #[.int .i64 n, .int .i64 d] 42) := ⟨_, rfl⟩
  have Ky : Hid (RX V1 (w.heap.size + 1) n d) := Lib.hid (by rw [hV1, ← hz0]; exact RX.new _ _ _)
  have hb : Below V0.heap.size V0 V1 := by rw [hV1]; exact (Below.refl _ _).alloc (Nat.le_refl _) _
  have hz1 : V1.heap.size = w.heap.size + 1 + 1 := by rw [hV1]; simp only [World.size_alloc, hz0]
  have Kx := Lib.hid (Kx.out.up hb)
  have BB := Lib.hid (BB.out.trans (hb.mono BB.out.size))
  clear hb
  have HW : Hid (((w.alloc (.cells #[.int .i64 G.p, .int .i64 G.c, .int .i64 G.s, .int .i64 G.mn, .int .i64 G.mx, .slice A G.bs.length k] 29)).alloc (.cells #[.int .i64 n, .int .i64 d] 42)) = V1) := Lib.hid (by rw [← hV0, ← hV1])
  clear hV0 hV1 hz0 hz1
  go_enter Try.func6, Try.ntmps6
  obtain ⟨x0, x1, x2, x3, x4, x5⟩ := Kx.out.box
  have xlt := Kx.out.lt
  obtain ⟨y0, y1⟩ := Ky.out.box
  have ylt := Ky.out.lt
  go_wp2_with fail
  rw [HW.out]
  with_reducible refine (KG.out _).mono ?_
  clear x0 x1 x2 x3 x4 x5 xlt
  clear y0 y1 ylt
  rintro e w1_ ⟨rfl, hb⟩
  have Kx := Lib.hid (Kx.out.up hb)
  have Ky := Lib.hid (Ky.out.up hb)
  have BB := Lib.hid (BB.out.trans (hb.mono BB.out.size))
  clear hb
  obtain ⟨x0, x1, x2, x3, x4, x5⟩ := Kx.out.box
  have xlt := Kx.out.lt
  obtain ⟨y0, y1⟩ := Ky.out.box
  have ylt := Ky.out.lt
  go_wp2_with fail
  with_reducible refine (HQ1.out _ Kx.out.ls).mono ?_
  clear x0 x1 x2 x3 x4 x5 xlt
  clear y0 y1 ylt
  rintro e w2_ ⟨rfl, hb⟩
  have Kx := Lib.hid (Kx.out.up hb)
  have Ky := Lib.hid (Ky.out.up hb)
  have BB := Lib.hid (BB.out.trans (hb.mono BB.out.size))
  clear hb
  obtain ⟨x0, x1, x2, x3, x4, x5⟩ := Kx.out.box
  have xlt := Kx.out.lt
  obtain ⟨y0, y1⟩ := Ky.out.box
  have ylt := Ky.out.lt
  go_wp2_with fail
  with_reducible refine (HQ2.out _ Kx.out.ls).mono ?_
  clear x0 x1 x2 x3 x4 x5 xlt
  clear y0 y1 ylt
  rintro e w3_ ⟨rfl, hb⟩
  have Kx := Lib.hid (Kx.out.up hb)
  have Ky := Lib.hid (Ky.out.up hb)
  have BB := Lib.hid (BB.out.trans (hb.mono BB.out.size))
  clear hb
  obtain ⟨x0, x1, x2, x3, x4, x5⟩ := Kx.out.box
  have xlt := Kx.out.lt
  obtain ⟨y0, y1⟩ := Ky.out.box
  have ylt := Ky.out.lt
  go_wp2_with fail
  with_reducible refine (HR1.out _ Kx.out.ls).mono ?_
  clear x0 x1 x2 x3 x4 x5 xlt
  clear y0 y1 ylt
  rintro e w4_ ⟨rfl, hb⟩
  have Kx := Lib.hid (Kx.out.up hb)
  have Ky := Lib.hid (Ky.out.up hb)
  have BB := Lib.hid (BB.out.trans (hb.mono BB.out.size))
  clear hb
  obtain ⟨x0, x1, x2, x3, x4, x5⟩ := Kx.out.box
  have xlt := Kx.out.lt
  obtain ⟨y0, y1⟩ := Ky.out.box
  have ylt := Ky.out.lt
  go_wp2_with fail
  with_reducible refine (HR2.out _ Kx.out.ls).mono ?_
  clear x0 x1 x2 x3 x4 x5 xlt
  clear y0 y1 ylt
  rintro e w5_ ⟨rfl, hb⟩
  have Kx := Lib.hid (Kx.out.up hb)
  have Ky := Lib.hid (Ky.out.up hb)
  have BB := Lib.hid (BB.out.trans (hb.mono BB.out.size))
  clear hb
  obtain ⟨x0, x1, x2, x3, x4, x5⟩ := Kx.out.box
  have xlt := Kx.out.lt
  obtain ⟨y0, y1⟩ := Ky.out.box
  have ylt := Ky.out.lt
  go_wp2_with fail
  with_reducible refine (KA.out _).mono ?_
  clear x0 x1 x2 x3 x4 x5 xlt
  clear y0 y1 ylt
  rintro e w6_ ⟨rfl, hb⟩
  have Kx := Lib.hid (Kx.out.up hb)
  have Ky := Lib.hid (Ky.out.up hb)
  have BB := Lib.hid (BB.out.trans (hb.mono BB.out.size))
  clear hb
  go_wp2
  go_ret
  exact ⟨rfl, BB.out⟩
theorem quantile_walk (p c s mn mx : Int) (A : Option Addr) (k : Nat) (l : List B) (hlen : l.length ≤ 9223372036854775807) (hs : inI s) (hmn : inI mn) (hmx : inI mx) (n d : Int) (hn : inI n) (hd : inI d) (x : Int) (w : World) (hA : LS w w.heap.size A l) : Calls Try.prog 6 #[hV p c s mn mx A l.length k, .agg #[.int .i64 n, .int .i64 d], .int .i64 x] w fun e w' => e = .returned (.bool true) ∧ Below w.heap.size w w' :=
  quantile_core ⟨p, c, s, mn, mx, l⟩ A k hlen hs hmn hmx n d hn hd x w hA
end Go.Proofs.Ytffnopdpndpngaa.Lh
