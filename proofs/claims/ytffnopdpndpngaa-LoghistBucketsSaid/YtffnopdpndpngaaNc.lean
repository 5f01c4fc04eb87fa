/- Layer 12: the law LoghistBuckets. -/
import Derived.Test.YtffnopdpndpngaaNb
set_option maxRecDepth 100000
set_option linter.unusedVariables false
set_option linter.unusedSimpArgs false
namespace Go.Proofs.Ytffnopdpndpngaa.Lh
open Go.RowKit
theorem HX.upk {W V : World} {g : Nat} {A : Option Addr} {c : Nat} {G : H} (h : HX W g A c G) (hb : Below W.heap.size W V) : HX V g A c G := h.up hb
set_option maxHeartbeats 4000000 in
theorem buckets_walk (p v i : Int) (w : World) : Calls Try.prog 3 #[.int .i64 p, .int .i64 v, .int .i64 i] w fun e w' => e = .returned (.bool true) ∧ Below w.heap.size w w' := by
  have KA := Lib.hid awake_any
  have I1 := Lib.hid (fun w => pIndex_any p v w)
  have I2 := Lib.hid (fun w => refIndex_any p v w)
  have E1 := Lib.hid (fun w => pBounds_any p i w)
  have E2 := Lib.hid (fun w => refBounds_any p i w)
  have N1 := Lib.hid (fun w => pNew_any p w)
  have N2 := Lib.hid (fun w => refNew_any p w)
  obtain ⟨a1, a2, ha⟩ : ∃ a1 a2 : Int, idxOut p v = .tuple #[.int .i64 a1, .int .i64 a2] := by
    unfold idxOut
    split
    · exact ⟨_, _, rfl⟩
    · exact ⟨_, _, rfl⟩
  obtain ⟨b1, b2, b3, hb⟩ : ∃ b1 b2 b3 : Int, bndOut p i = .tuple #[.int .i64 b1, .int .i64 b2, .int .i64 b3] := by
    unfold bndOut
    split
    · exact ⟨_, _, _, rfl⟩
    · exact ⟨_, _, _, rfl⟩
  obtain ⟨G, g, hG, hg⟩ : ∃ G g, (if p < 0 ∨ 8 < p then ((zeroH, 2) : H × Nat) else (newH p, 0)) = (G, g) ∧ G.bs = [] := by
    split
    · exact ⟨_, _, rfl, rfl⟩
    · exact ⟨_, _, rfl, rfl⟩
  rw [ha] at I1 I2
  rw [hb] at E1 E2
  rw [hG] at N1 N2
  have SM : Hid (∀ A1 A2 c1 c2 w, LS w w.heap.size A1 G.bs → LS w w.heap.size A2 G.bs → Calls Try.prog 18 #[hV G.p G.c G.s G.mn G.mx A1 G.bs.length c1, hV G.p G.c G.s G.mn G.mx A2 G.bs.length c2] w fun e w' => e = .returned (.bool true) ∧ Below w.heap.size w w') := Lib.hid fun A1 A2 c1 c2 w h1 h2 => same_any G (by rw [hg]; simp) A1 A2 c1 c2 w h1 h2
  have BB : Hid (Below w.heap.size w w) := Below.refl _ _
  clear ha hb hG hg
  go_enter Try.func3, Try.ntmps3
  go_wp2_with fail
  with_reducible refine (I1.out _).mono ?_
  rintro e w1_ ⟨rfl, hb⟩
  have BB := Lib.hid (BB.out.trans (hb.mono BB.out.size))
  clear hb
  go_wp2_with fail
  with_reducible refine (I2.out _).mono ?_
  rintro e w2_ ⟨rfl, hb⟩
  have BB := Lib.hid (BB.out.trans (hb.mono BB.out.size))
  clear hb
  go_wp2_with fail
  with_reducible refine (E1.out _).mono ?_
  rintro e w3_ ⟨rfl, hb⟩
  have BB := Lib.hid (BB.out.trans (hb.mono BB.out.size))
  clear hb
  go_wp2_with fail
  with_reducible refine (E2.out _).mono ?_
  rintro e w4_ ⟨rfl, hb⟩
  have BB := Lib.hid (BB.out.trans (hb.mono BB.out.size))
  clear hb
  go_wp2_with fail
  with_reducible refine (N1.out _).mono ?_
  rintro e w5_ ⟨Ax, cx, rfl, hl, -, hb⟩
  have BB := Lib.hid (BB.out.trans (hb.mono BB.out.size))
  clear hb
  go_wp2_with fail
  have Kx := Lib.hid (HX.new hl (c := cx))
  clear hl
  have hb : Below w5_.heap.size w5_ (w5_.alloc (.cells #[.int .i64 G.p, .int .i64 G.c, .int .i64 G.s, .int .i64 G.mn, .int .i64 G.mx, .slice Ax G.bs.length cx] 29)) := (Below.refl _ _).alloc (Nat.le_refl _) _
  have BB := Lib.hid (BB.out.trans (hb.mono BB.out.size))
  clear hb
  generalize hWx : w5_.alloc (.cells #[.int .i64 G.p, .int .i64 G.c, .int .i64 G.s, .int .i64 G.mn, .int .i64 G.mx, .slice Ax G.bs.length cx] 29) = w5_x at *
  with_reducible refine (N2.out _).mono ?_
  rintro e w6_ ⟨Ay, cy, rfl, hl, -, hb⟩
  have Kx := Lib.hid (Kx.out.up hb)
  have BB := Lib.hid (BB.out.trans (hb.mono BB.out.size))
  clear hb
  obtain ⟨x0, x1, x2, x3, x4, x5⟩ := Kx.out.box
  have xlt := Kx.out.lt
  go_wp2_with fail
  clear x0 x1 x2 x3 x4 x5 xlt
  have Ky := Lib.hid (HX.new hl (c := cy))
  clear hl
  have hb : Below w6_.heap.size w6_ (w6_.alloc (.cells #[.int .i64 G.p, .int .i64 G.c, .int .i64 G.s, .int .i64 G.mn, .int .i64 G.mx, .slice Ay G.bs.length cy] 29)) := (Below.refl _ _).alloc (Nat.le_refl _) _
  have Kx := Lib.hid (Kx.out.up hb)
  have BB := Lib.hid (BB.out.trans (hb.mono BB.out.size))
  clear hb
  generalize hWy : w6_.alloc (.cells #[.int .i64 G.p, .int .i64 G.c, .int .i64 G.s, .int .i64 G.mn, .int .i64 G.mx, .slice Ay G.bs.length cy] 29) = w6_x at *
  with_reducible refine (SM.out _ _ _ _ _ Kx.out.ls Ky.out.ls).mono ?_
  rintro e wn ⟨rfl, hb⟩
  have Kx := Lib.hid (Kx.out.up hb)
  have Ky := Lib.hid (Ky.out.up hb)
  have BB := Lib.hid (BB.out.trans (hb.mono BB.out.size))
  clear hb
  obtain ⟨x0, x1, x2, x3, x4, x5⟩ := Kx.out.box
  have xlt := Kx.out.lt
  obtain ⟨y0, y1, y2, y3, y4, y5⟩ := Ky.out.box
  have ylt := Ky.out.lt
  go_wp2_with fail
  with_reducible refine (KA.out _).mono ?_
  clear x0 x1 x2 x3 x4 x5 xlt
  clear y0 y1 y2 y3 y4 y5 ylt
  rintro e w7_ ⟨rfl, hb⟩
  have Kx := Lib.hid (Kx.out.up hb)
  have Ky := Lib.hid (Ky.out.up hb)
  have BB := Lib.hid (BB.out.trans (hb.mono BB.out.size))
  clear hb
  go_wp2
  go_ret
  exact ⟨rfl, BB.out⟩
end Go.Proofs.Ytffnopdpndpngaa.Lh
