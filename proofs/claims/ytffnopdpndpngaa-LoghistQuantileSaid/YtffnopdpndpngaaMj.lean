/- Layer 12: joined's counting of one bucket: the region that draws its order, by what holds behind each of its operations. -/
import Derived.Test.YtffnopdpndpngaaMi
set_option linter.unusedVariables false
set_option linter.unusedSimpArgs false
namespace Go.Proofs.Ytffnopdpndpngaa.Lh
open Go.RowKit Go.Shelf
attribute [local go_sem] Oper.semAt_some
/-- A region that draws its order, by an invariant over what has been carried out. -/
theorem any_inv {F : Fence} {n : Nat} {P : Program} {ops : Array Oper} {Q : Exit → Act → World → Prop} {md : Region.Mode} (Inv : Nat → Array Bool → Act → World → Prop)
    (h0 : ∀ L a w, Inv 0 L a w → Region.ready md ops L = [])
    (hdone : ∀ k L a w, Inv k L a w → Region.ready md ops L = [] → Q .normal a w)
    (hstep : ∀ k L a w i, Inv (k + 1) L a w → i ∈ Region.ready md ops L → wpOpIn F n P ops Q i (Inv k (L.setIfInBounds i true)) a w) :
    ∀ (fuel : Nat) (L : Array Bool) (a : Act) (w : World), Inv fuel L a w → wpAnyIn F n P md ops Q fuel L a w
  | 0, L, a, w, h => ⟨h0 L a w h, hdone 0 L a w h (h0 L a w h)⟩
  | k + 1, L, a, w, h => ⟨hdone _ L a w h, fun i hi => wpOpIn_mono (fun a w h => any_inv Inv h0 hdone hstep k _ a w h) (hstep k L a w i h hi)⟩
/-- joined's region 8. -/
abbrev ops8 : Array Oper := #[{ dst := some 50, op := Op.load 86 (Operand.tmp 7), type := 86, pos := "loghist.go:102", after := #[], guard := none }, { dst := some 51, op := Op.fieldAddr 29 (Operand.tmp 6) 0, type := 0, pos := "loghist.go:102", after := #[], guard := none }, { dst := some 52, op := Op.load 3 (Operand.tmp 51), type := 3, pos := "loghist.go:102", after := #[{ on := 1, ground := Ground.data }], guard := none }, { dst := some 53, op := Op.fieldAddr 79 (Operand.tmp 10) 1, type := 0, pos := "loghist.go:102", after := #[], guard := none }, { dst := some 54, op := Op.load 3 (Operand.tmp 53), type := 3, pos := "loghist.go:102", after := #[{ on := 3, ground := Ground.data }], guard := none }, { dst := some 55, op := Op.call { callee := Callee.value (Operand.func 39), args := #[Operand.tmp 52, Operand.tmp 54], argTypes := #[3, 3] }, type := 3, pos := "loghist.go:102", after := #[{ on := 2, ground := Ground.data }, { on := 4, ground := Ground.data }], guard := none }, { dst := some 56, op := Op.lookup 86 (Operand.tmp 50) (Operand.tmp 55) false, type := 3, pos := "loghist.go:102", after := #[{ on := 0, ground := Ground.data }, { on := 5, ground := Ground.data }], guard := none }, { dst := some 57, op := Op.fieldAddr 79 (Operand.tmp 10) 0, type := 0, pos := "loghist.go:102", after := #[], guard := none }, { dst := some 58, op := Op.load 3 (Operand.tmp 57), type := 3, pos := "loghist.go:102", after := #[{ on := 7, ground := Ground.data }], guard := none }, { dst := some 59, op := Op.binOp BinOp.add 3 (Operand.tmp 56) (Operand.tmp 58) 3, type := 3, pos := "loghist.go:102", after := #[{ on := 6, ground := Ground.data }, { on := 8, ground := Ground.data }], guard := none }, { dst := none, op := Op.mapUpdate 86 (Operand.tmp 50) (Operand.tmp 55) (Operand.tmp 59), type := 0, pos := "loghist.go:102", after := #[{ on := 0, ground := Ground.data }, { on := 5, ground := Ground.data }, { on := 9, ground := Ground.data }, { on := 5, ground := Ground.chain }, { on := 0, ground := Ground.phase }, { on := 1, ground := Ground.phase }, { on := 2, ground := Ground.phase }, { on := 3, ground := Ground.phase }, { on := 4, ground := Ground.phase }, { on := 5, ground := Ground.phase }, { on := 6, ground := Ground.phase }, { on := 7, ground := Ground.phase }, { on := 8, ground := Ground.phase }, { on := 9, ground := Ground.phase }], guard := none }]
def falses (l : List Bool) : Nat := (l.filter (! ·)).length
theorem grown_more {W X Y : World} {r : Option Nat} (hg : W.grownBy X r) (hb : Below X.heap.size X Y) : W.grownBy Y r :=
  ⟨hb.os.trans hg.os, hb.tape.trans hg.tape, hb.output.trans hg.output, Nat.le_trans hg.size hb.size, fun k hk hr => (hb.block k (Nat.lt_of_lt_of_le hk hg.size)).trans (hg.block k hk hr)⟩
theorem grown_two {W X Y : World} {r : Option Nat} (hg : W.grownBy X r) (hb : X.grownBy Y r) : W.grownBy Y r :=
  ⟨hb.os.trans hg.os, hb.tape.trans hg.tape, hb.output.trans hg.output, Nat.le_trans hg.size hb.size, fun k hk hr => (hb.block k (Nat.lt_of_lt_of_le hk hg.size) hr).trans (hg.block k hk hr)⟩
/-- What holds of the world: the map apart, all lies as it lay. -/
structure WI (W w : World) (vb kk : Nat) (ii xc : Int) (mm : List B) (b6 b10 : Bool) : Prop where
  grown : W.grownBy w (some vb)
  before : b10 = false → CntM w vb kk mm
  after : b10 = true → b6 = true ∧ CntM w vb (kk + 1) (put ii xc mm)
theorem WI.cell {W w : World} {vb kk : Nat} {ii xc : Int} {mm : List B} {b6 b10 : Bool} (h : WI W w vb kk ii xc mm b6 b10) {g o : Nat} {v : Value} (hg : g < W.heap.size) (hne : g ≠ vb) (e : W.cell? ⟨g, o, none⟩ = some v) : w.cell? ⟨g, o, none⟩ = some v :=
  (World.cell?_of_block (h.grown.block g hg (fun x => hne (by cases x; rfl)))).trans e
/-- The frame, by what has been carried out. -/
def fr8 (t0 t1 t2 t3 t4 t5 t8 t9 t11 t12 t13 t14 t15 t16 t17 t18 t19 t20 t21 t22 t23 t24 t25 t26 t27 t28 t29 t30 t31 t32 t33 t34 t35 t36 t37 t38 t39 t40 t41 t42 t43 t44 t45 t46 t47 t48 t49 t50 t51 t52 t53 t54 t55 t56 t57 t58 t59 t60 t61 t62 t63 t64 t65 t66 t67 t68 t69 t70 t71 t72 t73 t74 t75 t76 t77 t78 t79 t80 t81 t82 t83 t84 t85 t86 t87 t88 t89 : Value) (ds : List Deferred) (h vb Bp : Nat) (P xl xc ii c0 : Int) (b0 b1 b2 b3 b4 b5 b6 b7 b8 b9 : Bool) : Act :=
  { tmps := #[t0, t1, t2, t3, t4, t5, .pointer (some ⟨h, 0, none⟩), .pointer (some ⟨vb + 1, 0, none⟩), t8, t9, .pointer (some ⟨Bp, 0, none⟩), t11, t12, t13, t14, t15, t16, t17, t18, t19, t20, t21, t22, t23, t24, t25, t26, t27, t28, t29, t30, t31, t32, t33, t34, t35, t36, t37, t38, t39, t40, t41, t42, t43, t44, t45, t46, t47, t48, t49, (bif b0 then .map (some vb) else t50), (bif b1 then .pointer (some ⟨h, 0, none⟩) else t51), (bif b2 then .int .i64 P else t52), (bif b3 then .pointer (some ⟨Bp, 1, none⟩) else t53), (bif b4 then .int .i64 xl else t54), (bif b5 then .int .i64 ii else t55), (bif b6 then .int .i64 c0 else t56), (bif b7 then .pointer (some ⟨Bp, 0, none⟩) else t57), (bif b8 then .int .i64 xc else t58), (bif b9 then .int .i64 (c0 + xc) else t59), t60, t61, t62, t63, t64, t65, t66, t67, t68, t69, t70, t71, t72, t73, t74, t75, t76, t77, t78, t79, t80, t81, t82, t83, t84, t85, t86, t87, t88, t89], defers := ds }
section
variable {n : Nat} {lc : Nat} {t0 t1 t2 t3 t4 t5 t8 t9 t11 t12 t13 t14 t15 t16 t17 t18 t19 t20 t21 t22 t23 t24 t25 t26 t27 t28 t29 t30 t31 t32 t33 t34 t35 t36 t37 t38 t39 t40 t41 t42 t43 t44 t45 t46 t47 t48 t49 t50 t51 t52 t53 t54 t55 t56 t57 t58 t59 t60 t61 t62 t63 t64 t65 t66 t67 t68 t69 t70 t71 t72 t73 t74 t75 t76 t77 t78 t79 t80 t81 t82 t83 t84 t85 t86 t87 t88 t89 : Value} {ds : List Deferred} {h vb Bp : Nat} {P xl xc ii c0 : Int} {b0 b1 b2 b3 b4 b5 b6 b7 b8 b9 : Bool} {Q : Exit → Act → World → Prop} {K : Act → World → Prop} {w : World}
theorem op8_0 (hc : w.cell? ⟨vb + 1, 0, none⟩ = some (.map (some vb))) (hK : K (fr8 t0 t1 t2 t3 t4 t5 t8 t9 t11 t12 t13 t14 t15 t16 t17 t18 t19 t20 t21 t22 t23 t24 t25 t26 t27 t28 t29 t30 t31 t32 t33 t34 t35 t36 t37 t38 t39 t40 t41 t42 t43 t44 t45 t46 t47 t48 t49 t50 t51 t52 t53 t54 t55 t56 t57 t58 t59 t60 t61 t62 t63 t64 t65 t66 t67 t68 t69 t70 t71 t72 t73 t74 t75 t76 t77 t78 t79 t80 t81 t82 t83 t84 t85 t86 t87 t88 t89 ds h vb Bp P xl xc ii c0 true b1 b2 b3 b4 b5 b6 b7 b8 b9) w) :
    wpOpIn (Fence.wide.inRound lc) n Try.prog ops8 Q 0 K (fr8 t0 t1 t2 t3 t4 t5 t8 t9 t11 t12 t13 t14 t15 t16 t17 t18 t19 t20 t21 t22 t23 t24 t25 t26 t27 t28 t29 t30 t31 t32 t33 t34 t35 t36 t37 t38 t39 t40 t41 t42 t43 t44 t45 t46 t47 t48 t49 t50 t51 t52 t53 t54 t55 t56 t57 t58 t59 t60 t61 t62 t63 t64 t65 t66 t67 t68 t69 t70 t71 t72 t73 t74 t75 t76 t77 t78 t79 t80 t81 t82 t83 t84 t85 t86 t87 t88 t89 ds h vb Bp P xl xc ii c0 false b1 b2 b3 b4 b5 b6 b7 b8 b9) w := by
  refine wpOpIn_step rfl (fun K' hK' => ?_)
  unfold fr8
  go_simp
  exact hK' _ _ hK
theorem op8_1  (hK : K (fr8 t0 t1 t2 t3 t4 t5 t8 t9 t11 t12 t13 t14 t15 t16 t17 t18 t19 t20 t21 t22 t23 t24 t25 t26 t27 t28 t29 t30 t31 t32 t33 t34 t35 t36 t37 t38 t39 t40 t41 t42 t43 t44 t45 t46 t47 t48 t49 t50 t51 t52 t53 t54 t55 t56 t57 t58 t59 t60 t61 t62 t63 t64 t65 t66 t67 t68 t69 t70 t71 t72 t73 t74 t75 t76 t77 t78 t79 t80 t81 t82 t83 t84 t85 t86 t87 t88 t89 ds h vb Bp P xl xc ii c0 b0 true b2 b3 b4 b5 b6 b7 b8 b9) w) :
    wpOpIn (Fence.wide.inRound lc) n Try.prog ops8 Q 1 K (fr8 t0 t1 t2 t3 t4 t5 t8 t9 t11 t12 t13 t14 t15 t16 t17 t18 t19 t20 t21 t22 t23 t24 t25 t26 t27 t28 t29 t30 t31 t32 t33 t34 t35 t36 t37 t38 t39 t40 t41 t42 t43 t44 t45 t46 t47 t48 t49 t50 t51 t52 t53 t54 t55 t56 t57 t58 t59 t60 t61 t62 t63 t64 t65 t66 t67 t68 t69 t70 t71 t72 t73 t74 t75 t76 t77 t78 t79 t80 t81 t82 t83 t84 t85 t86 t87 t88 t89 ds h vb Bp P xl xc ii c0 b0 false b2 b3 b4 b5 b6 b7 b8 b9) w := by
  refine wpOpIn_step rfl (fun K' hK' => ?_)
  unfold fr8
  go_simp
  exact hK' _ _ hK
theorem op8_2 (hc : w.cell? ⟨h, 0, none⟩ = some (.int .i64 P)) (hK : K (fr8 t0 t1 t2 t3 t4 t5 t8 t9 t11 t12 t13 t14 t15 t16 t17 t18 t19 t20 t21 t22 t23 t24 t25 t26 t27 t28 t29 t30 t31 t32 t33 t34 t35 t36 t37 t38 t39 t40 t41 t42 t43 t44 t45 t46 t47 t48 t49 t50 t51 t52 t53 t54 t55 t56 t57 t58 t59 t60 t61 t62 t63 t64 t65 t66 t67 t68 t69 t70 t71 t72 t73 t74 t75 t76 t77 t78 t79 t80 t81 t82 t83 t84 t85 t86 t87 t88 t89 ds h vb Bp P xl xc ii c0 b0 true true b3 b4 b5 b6 b7 b8 b9) w) :
    wpOpIn (Fence.wide.inRound lc) n Try.prog ops8 Q 2 K (fr8 t0 t1 t2 t3 t4 t5 t8 t9 t11 t12 t13 t14 t15 t16 t17 t18 t19 t20 t21 t22 t23 t24 t25 t26 t27 t28 t29 t30 t31 t32 t33 t34 t35 t36 t37 t38 t39 t40 t41 t42 t43 t44 t45 t46 t47 t48 t49 t50 t51 t52 t53 t54 t55 t56 t57 t58 t59 t60 t61 t62 t63 t64 t65 t66 t67 t68 t69 t70 t71 t72 t73 t74 t75 t76 t77 t78 t79 t80 t81 t82 t83 t84 t85 t86 t87 t88 t89 ds h vb Bp P xl xc ii c0 b0 true false b3 b4 b5 b6 b7 b8 b9) w := by
  refine wpOpIn_step rfl (fun K' hK' => ?_)
  unfold fr8
  go_simp
  exact hK' _ _ hK
theorem op8_3  (hK : K (fr8 t0 t1 t2 t3 t4 t5 t8 t9 t11 t12 t13 t14 t15 t16 t17 t18 t19 t20 t21 t22 t23 t24 t25 t26 t27 t28 t29 t30 t31 t32 t33 t34 t35 t36 t37 t38 t39 t40 t41 t42 t43 t44 t45 t46 t47 t48 t49 t50 t51 t52 t53 t54 t55 t56 t57 t58 t59 t60 t61 t62 t63 t64 t65 t66 t67 t68 t69 t70 t71 t72 t73 t74 t75 t76 t77 t78 t79 t80 t81 t82 t83 t84 t85 t86 t87 t88 t89 ds h vb Bp P xl xc ii c0 b0 b1 b2 true b4 b5 b6 b7 b8 b9) w) :
    wpOpIn (Fence.wide.inRound lc) n Try.prog ops8 Q 3 K (fr8 t0 t1 t2 t3 t4 t5 t8 t9 t11 t12 t13 t14 t15 t16 t17 t18 t19 t20 t21 t22 t23 t24 t25 t26 t27 t28 t29 t30 t31 t32 t33 t34 t35 t36 t37 t38 t39 t40 t41 t42 t43 t44 t45 t46 t47 t48 t49 t50 t51 t52 t53 t54 t55 t56 t57 t58 t59 t60 t61 t62 t63 t64 t65 t66 t67 t68 t69 t70 t71 t72 t73 t74 t75 t76 t77 t78 t79 t80 t81 t82 t83 t84 t85 t86 t87 t88 t89 ds h vb Bp P xl xc ii c0 b0 b1 b2 false b4 b5 b6 b7 b8 b9) w := by
  refine wpOpIn_step rfl (fun K' hK' => ?_)
  unfold fr8
  go_simp
  exact hK' _ _ hK
theorem op8_4 (hc : w.cell? ⟨Bp, 1, none⟩ = some (.int .i64 xl)) (hK : K (fr8 t0 t1 t2 t3 t4 t5 t8 t9 t11 t12 t13 t14 t15 t16 t17 t18 t19 t20 t21 t22 t23 t24 t25 t26 t27 t28 t29 t30 t31 t32 t33 t34 t35 t36 t37 t38 t39 t40 t41 t42 t43 t44 t45 t46 t47 t48 t49 t50 t51 t52 t53 t54 t55 t56 t57 t58 t59 t60 t61 t62 t63 t64 t65 t66 t67 t68 t69 t70 t71 t72 t73 t74 t75 t76 t77 t78 t79 t80 t81 t82 t83 t84 t85 t86 t87 t88 t89 ds h vb Bp P xl xc ii c0 b0 b1 b2 true true b5 b6 b7 b8 b9) w) :
    wpOpIn (Fence.wide.inRound lc) n Try.prog ops8 Q 4 K (fr8 t0 t1 t2 t3 t4 t5 t8 t9 t11 t12 t13 t14 t15 t16 t17 t18 t19 t20 t21 t22 t23 t24 t25 t26 t27 t28 t29 t30 t31 t32 t33 t34 t35 t36 t37 t38 t39 t40 t41 t42 t43 t44 t45 t46 t47 t48 t49 t50 t51 t52 t53 t54 t55 t56 t57 t58 t59 t60 t61 t62 t63 t64 t65 t66 t67 t68 t69 t70 t71 t72 t73 t74 t75 t76 t77 t78 t79 t80 t81 t82 t83 t84 t85 t86 t87 t88 t89 ds h vb Bp P xl xc ii c0 b0 b1 b2 true false b5 b6 b7 b8 b9) w := by
  refine wpOpIn_step rfl (fun K' hK' => ?_)
  unfold fr8
  go_simp
  exact hK' _ _ hK
theorem op8_5 (HI : ∀ w, Calls Try.prog 39 #[.int .i64 P, .int .i64 xl] w fun e w' => e = .returned (.int .i64 ii) ∧ Below w.heap.size w w') (hK : ∀ w', Below w.heap.size w w' → K (fr8 t0 t1 t2 t3 t4 t5 t8 t9 t11 t12 t13 t14 t15 t16 t17 t18 t19 t20 t21 t22 t23 t24 t25 t26 t27 t28 t29 t30 t31 t32 t33 t34 t35 t36 t37 t38 t39 t40 t41 t42 t43 t44 t45 t46 t47 t48 t49 t50 t51 t52 t53 t54 t55 t56 t57 t58 t59 t60 t61 t62 t63 t64 t65 t66 t67 t68 t69 t70 t71 t72 t73 t74 t75 t76 t77 t78 t79 t80 t81 t82 t83 t84 t85 t86 t87 t88 t89 ds h vb Bp P xl xc ii c0 b0 b1 true b3 true true b6 b7 b8 b9) w') :
    wpOpIn (Fence.wide.inRound lc) n Try.prog ops8 Q 5 K (fr8 t0 t1 t2 t3 t4 t5 t8 t9 t11 t12 t13 t14 t15 t16 t17 t18 t19 t20 t21 t22 t23 t24 t25 t26 t27 t28 t29 t30 t31 t32 t33 t34 t35 t36 t37 t38 t39 t40 t41 t42 t43 t44 t45 t46 t47 t48 t49 t50 t51 t52 t53 t54 t55 t56 t57 t58 t59 t60 t61 t62 t63 t64 t65 t66 t67 t68 t69 t70 t71 t72 t73 t74 t75 t76 t77 t78 t79 t80 t81 t82 t83 t84 t85 t86 t87 t88 t89 ds h vb Bp P xl xc ii c0 b0 b1 true b3 true false b6 b7 b8 b9) w := by
  refine wpOpIn_step rfl (fun K' hK' => ?_)
  unfold fr8
  go_simp
  refine ⟨trivial, (fun h => by cases h), ?_⟩
  refine (CallsIn.inRound lc (callsIn_wide.2 (HI _))).mono ?_
  rintro e w5 ⟨rfl, hb⟩
  exact hK' _ _ (hK _ hb)
theorem op8_6 (hc : (Instr.lookup 86 (.map (some vb)) (.int .i64 ii) false).run Try.prog w = .ok (.int .i64 c0) w) (hK : K (fr8 t0 t1 t2 t3 t4 t5 t8 t9 t11 t12 t13 t14 t15 t16 t17 t18 t19 t20 t21 t22 t23 t24 t25 t26 t27 t28 t29 t30 t31 t32 t33 t34 t35 t36 t37 t38 t39 t40 t41 t42 t43 t44 t45 t46 t47 t48 t49 t50 t51 t52 t53 t54 t55 t56 t57 t58 t59 t60 t61 t62 t63 t64 t65 t66 t67 t68 t69 t70 t71 t72 t73 t74 t75 t76 t77 t78 t79 t80 t81 t82 t83 t84 t85 t86 t87 t88 t89 ds h vb Bp P xl xc ii c0 true b1 b2 b3 b4 true true b7 b8 b9) w) :
    wpOpIn (Fence.wide.inRound lc) n Try.prog ops8 Q 6 K (fr8 t0 t1 t2 t3 t4 t5 t8 t9 t11 t12 t13 t14 t15 t16 t17 t18 t19 t20 t21 t22 t23 t24 t25 t26 t27 t28 t29 t30 t31 t32 t33 t34 t35 t36 t37 t38 t39 t40 t41 t42 t43 t44 t45 t46 t47 t48 t49 t50 t51 t52 t53 t54 t55 t56 t57 t58 t59 t60 t61 t62 t63 t64 t65 t66 t67 t68 t69 t70 t71 t72 t73 t74 t75 t76 t77 t78 t79 t80 t81 t82 t83 t84 t85 t86 t87 t88 t89 ds h vb Bp P xl xc ii c0 true b1 b2 b3 b4 true false b7 b8 b9) w := by
  refine wpOpIn_step rfl (fun K' hK' => ?_)
  unfold fr8
  go_simp
  exact hK' _ _ hK
theorem op8_7  (hK : K (fr8 t0 t1 t2 t3 t4 t5 t8 t9 t11 t12 t13 t14 t15 t16 t17 t18 t19 t20 t21 t22 t23 t24 t25 t26 t27 t28 t29 t30 t31 t32 t33 t34 t35 t36 t37 t38 t39 t40 t41 t42 t43 t44 t45 t46 t47 t48 t49 t50 t51 t52 t53 t54 t55 t56 t57 t58 t59 t60 t61 t62 t63 t64 t65 t66 t67 t68 t69 t70 t71 t72 t73 t74 t75 t76 t77 t78 t79 t80 t81 t82 t83 t84 t85 t86 t87 t88 t89 ds h vb Bp P xl xc ii c0 b0 b1 b2 b3 b4 b5 b6 true b8 b9) w) :
    wpOpIn (Fence.wide.inRound lc) n Try.prog ops8 Q 7 K (fr8 t0 t1 t2 t3 t4 t5 t8 t9 t11 t12 t13 t14 t15 t16 t17 t18 t19 t20 t21 t22 t23 t24 t25 t26 t27 t28 t29 t30 t31 t32 t33 t34 t35 t36 t37 t38 t39 t40 t41 t42 t43 t44 t45 t46 t47 t48 t49 t50 t51 t52 t53 t54 t55 t56 t57 t58 t59 t60 t61 t62 t63 t64 t65 t66 t67 t68 t69 t70 t71 t72 t73 t74 t75 t76 t77 t78 t79 t80 t81 t82 t83 t84 t85 t86 t87 t88 t89 ds h vb Bp P xl xc ii c0 b0 b1 b2 b3 b4 b5 b6 false b8 b9) w := by
  refine wpOpIn_step rfl (fun K' hK' => ?_)
  unfold fr8
  go_simp
  exact hK' _ _ hK
theorem op8_8 (hc : w.cell? ⟨Bp, 0, none⟩ = some (.int .i64 xc)) (hK : K (fr8 t0 t1 t2 t3 t4 t5 t8 t9 t11 t12 t13 t14 t15 t16 t17 t18 t19 t20 t21 t22 t23 t24 t25 t26 t27 t28 t29 t30 t31 t32 t33 t34 t35 t36 t37 t38 t39 t40 t41 t42 t43 t44 t45 t46 t47 t48 t49 t50 t51 t52 t53 t54 t55 t56 t57 t58 t59 t60 t61 t62 t63 t64 t65 t66 t67 t68 t69 t70 t71 t72 t73 t74 t75 t76 t77 t78 t79 t80 t81 t82 t83 t84 t85 t86 t87 t88 t89 ds h vb Bp P xl xc ii c0 b0 b1 b2 b3 b4 b5 b6 true true b9) w) :
    wpOpIn (Fence.wide.inRound lc) n Try.prog ops8 Q 8 K (fr8 t0 t1 t2 t3 t4 t5 t8 t9 t11 t12 t13 t14 t15 t16 t17 t18 t19 t20 t21 t22 t23 t24 t25 t26 t27 t28 t29 t30 t31 t32 t33 t34 t35 t36 t37 t38 t39 t40 t41 t42 t43 t44 t45 t46 t47 t48 t49 t50 t51 t52 t53 t54 t55 t56 t57 t58 t59 t60 t61 t62 t63 t64 t65 t66 t67 t68 t69 t70 t71 t72 t73 t74 t75 t76 t77 t78 t79 t80 t81 t82 t83 t84 t85 t86 t87 t88 t89 ds h vb Bp P xl xc ii c0 b0 b1 b2 b3 b4 b5 b6 true false b9) w := by
  refine wpOpIn_step rfl (fun K' hK' => ?_)
  unfold fr8
  go_simp
  exact hK' _ _ hK
theorem op8_9 (hc : IntKind.i64.wrap (c0 + xc) = c0 + xc) (hc2 : wrap64 (c0 + xc) = c0 + xc) (hK : K (fr8 t0 t1 t2 t3 t4 t5 t8 t9 t11 t12 t13 t14 t15 t16 t17 t18 t19 t20 t21 t22 t23 t24 t25 t26 t27 t28 t29 t30 t31 t32 t33 t34 t35 t36 t37 t38 t39 t40 t41 t42 t43 t44 t45 t46 t47 t48 t49 t50 t51 t52 t53 t54 t55 t56 t57 t58 t59 t60 t61 t62 t63 t64 t65 t66 t67 t68 t69 t70 t71 t72 t73 t74 t75 t76 t77 t78 t79 t80 t81 t82 t83 t84 t85 t86 t87 t88 t89 ds h vb Bp P xl xc ii c0 b0 b1 b2 b3 b4 b5 true b7 true true) w) :
    wpOpIn (Fence.wide.inRound lc) n Try.prog ops8 Q 9 K (fr8 t0 t1 t2 t3 t4 t5 t8 t9 t11 t12 t13 t14 t15 t16 t17 t18 t19 t20 t21 t22 t23 t24 t25 t26 t27 t28 t29 t30 t31 t32 t33 t34 t35 t36 t37 t38 t39 t40 t41 t42 t43 t44 t45 t46 t47 t48 t49 t50 t51 t52 t53 t54 t55 t56 t57 t58 t59 t60 t61 t62 t63 t64 t65 t66 t67 t68 t69 t70 t71 t72 t73 t74 t75 t76 t77 t78 t79 t80 t81 t82 t83 t84 t85 t86 t87 t88 t89 ds h vb Bp P xl xc ii c0 b0 b1 b2 b3 b4 b5 true b7 true false) w := by
  refine wpOpIn_step rfl (fun K' hK' => ?_)
  unfold fr8
  go_simp
  exact hK' _ _ hK
theorem op8_10 {w6 : World} (hc : (Instr.mapUpdate 86 (.map (some vb)) (.int .i64 ii) (.int .i64 (c0 + xc))).run Try.prog w = .ok () w6) (hK : K (fr8 t0 t1 t2 t3 t4 t5 t8 t9 t11 t12 t13 t14 t15 t16 t17 t18 t19 t20 t21 t22 t23 t24 t25 t26 t27 t28 t29 t30 t31 t32 t33 t34 t35 t36 t37 t38 t39 t40 t41 t42 t43 t44 t45 t46 t47 t48 t49 t50 t51 t52 t53 t54 t55 t56 t57 t58 t59 t60 t61 t62 t63 t64 t65 t66 t67 t68 t69 t70 t71 t72 t73 t74 t75 t76 t77 t78 t79 t80 t81 t82 t83 t84 t85 t86 t87 t88 t89 ds h vb Bp P xl xc ii c0 true b1 b2 b3 b4 true b6 b7 b8 true) w6) :
    wpOpIn (Fence.wide.inRound lc) n Try.prog ops8 Q 10 K (fr8 t0 t1 t2 t3 t4 t5 t8 t9 t11 t12 t13 t14 t15 t16 t17 t18 t19 t20 t21 t22 t23 t24 t25 t26 t27 t28 t29 t30 t31 t32 t33 t34 t35 t36 t37 t38 t39 t40 t41 t42 t43 t44 t45 t46 t47 t48 t49 t50 t51 t52 t53 t54 t55 t56 t57 t58 t59 t60 t61 t62 t63 t64 t65 t66 t67 t68 t69 t70 t71 t72 t73 t74 t75 t76 t77 t78 t79 t80 t81 t82 t83 t84 t85 t86 t87 t88 t89 ds h vb Bp P xl xc ii c0 true b1 b2 b3 b4 true b6 b7 b8 true) w := by
  refine wpOpIn_step rfl (fun K' hK' => ?_)
  unfold fr8
  go_simp
  exact hK' _ _ hK
end
theorem ready8 : ∀ b0 b1 b2 b3 b4 b5 b6 b7 b8 b9 b10 : Bool, Region.ready .any ops8 #[b0, b1, b2, b3, b4, b5, b6, b7, b8, b9, b10] = [] → (b0 && b1 && b2 && b3 && b4 && b5 && b6 && b7 && b8 && b9 && b10) = true := by decide +kernel
theorem dep8_0 (b0 b1 b2 b3 b4 b5 b6 b7 b8 b9 b10 : Bool) (hi : 0 ∈ Region.ready .any ops8 #[b0, b1, b2, b3, b4, b5, b6, b7, b8, b9, b10]) : ((!b0)) = true := by
  obtain ⟨h1, o, ho, h2⟩ := mem_ready.1 hi
  cases ho
  have e : b0 = false := h1
  subst e
  rfl
theorem dep8_1 (b0 b1 b2 b3 b4 b5 b6 b7 b8 b9 b10 : Bool) (hi : 1 ∈ Region.ready .any ops8 #[b0, b1, b2, b3, b4, b5, b6, b7, b8, b9, b10]) : ((!b1)) = true := by
  obtain ⟨h1, o, ho, h2⟩ := mem_ready.1 hi
  cases ho
  have e : b1 = false := h1
  subst e
  rfl
theorem dep8_2 (b0 b1 b2 b3 b4 b5 b6 b7 b8 b9 b10 : Bool) (hi : 2 ∈ Region.ready .any ops8 #[b0, b1, b2, b3, b4, b5, b6, b7, b8, b9, b10]) : ((!b2) && b1) = true := by
  obtain ⟨h1, o, ho, h2⟩ := mem_ready.1 hi
  cases ho
  have e : b2 = false := h1
  have e1 : b1 = true := h2 { on := 1, ground := Ground.data } (by simp) rfl
  subst e e1
  rfl
theorem dep8_3 (b0 b1 b2 b3 b4 b5 b6 b7 b8 b9 b10 : Bool) (hi : 3 ∈ Region.ready .any ops8 #[b0, b1, b2, b3, b4, b5, b6, b7, b8, b9, b10]) : ((!b3)) = true := by
  obtain ⟨h1, o, ho, h2⟩ := mem_ready.1 hi
  cases ho
  have e : b3 = false := h1
  subst e
  rfl
theorem dep8_4 (b0 b1 b2 b3 b4 b5 b6 b7 b8 b9 b10 : Bool) (hi : 4 ∈ Region.ready .any ops8 #[b0, b1, b2, b3, b4, b5, b6, b7, b8, b9, b10]) : ((!b4) && b3) = true := by
  obtain ⟨h1, o, ho, h2⟩ := mem_ready.1 hi
  cases ho
  have e : b4 = false := h1
  have e3 : b3 = true := h2 { on := 3, ground := Ground.data } (by simp) rfl
  subst e e3
  rfl
theorem dep8_5 (b0 b1 b2 b3 b4 b5 b6 b7 b8 b9 b10 : Bool) (hi : 5 ∈ Region.ready .any ops8 #[b0, b1, b2, b3, b4, b5, b6, b7, b8, b9, b10]) : ((!b5) && b2 && b4) = true := by
  obtain ⟨h1, o, ho, h2⟩ := mem_ready.1 hi
  cases ho
  have e : b5 = false := h1
  have e2 : b2 = true := h2 { on := 2, ground := Ground.data } (by simp) rfl
  have e4 : b4 = true := h2 { on := 4, ground := Ground.data } (by simp) rfl
  subst e e2 e4
  rfl
theorem dep8_6 (b0 b1 b2 b3 b4 b5 b6 b7 b8 b9 b10 : Bool) (hi : 6 ∈ Region.ready .any ops8 #[b0, b1, b2, b3, b4, b5, b6, b7, b8, b9, b10]) : ((!b6) && b0 && b5) = true := by
  obtain ⟨h1, o, ho, h2⟩ := mem_ready.1 hi
  cases ho
  have e : b6 = false := h1
  have e0 : b0 = true := h2 { on := 0, ground := Ground.data } (by simp) rfl
  have e5 : b5 = true := h2 { on := 5, ground := Ground.data } (by simp) rfl
  subst e e0 e5
  rfl
theorem dep8_7 (b0 b1 b2 b3 b4 b5 b6 b7 b8 b9 b10 : Bool) (hi : 7 ∈ Region.ready .any ops8 #[b0, b1, b2, b3, b4, b5, b6, b7, b8, b9, b10]) : ((!b7)) = true := by
  obtain ⟨h1, o, ho, h2⟩ := mem_ready.1 hi
  cases ho
  have e : b7 = false := h1
  subst e
  rfl
theorem dep8_8 (b0 b1 b2 b3 b4 b5 b6 b7 b8 b9 b10 : Bool) (hi : 8 ∈ Region.ready .any ops8 #[b0, b1, b2, b3, b4, b5, b6, b7, b8, b9, b10]) : ((!b8) && b7) = true := by
  obtain ⟨h1, o, ho, h2⟩ := mem_ready.1 hi
  cases ho
  have e : b8 = false := h1
  have e7 : b7 = true := h2 { on := 7, ground := Ground.data } (by simp) rfl
  subst e e7
  rfl
theorem dep8_9 (b0 b1 b2 b3 b4 b5 b6 b7 b8 b9 b10 : Bool) (hi : 9 ∈ Region.ready .any ops8 #[b0, b1, b2, b3, b4, b5, b6, b7, b8, b9, b10]) : ((!b9) && b6 && b8) = true := by
  obtain ⟨h1, o, ho, h2⟩ := mem_ready.1 hi
  cases ho
  have e : b9 = false := h1
  have e6 : b6 = true := h2 { on := 6, ground := Ground.data } (by simp) rfl
  have e8 : b8 = true := h2 { on := 8, ground := Ground.data } (by simp) rfl
  subst e e6 e8
  rfl
theorem dep8_10 (b0 b1 b2 b3 b4 b5 b6 b7 b8 b9 b10 : Bool) (hi : 10 ∈ Region.ready .any ops8 #[b0, b1, b2, b3, b4, b5, b6, b7, b8, b9, b10]) : ((!b10) && b0 && b5 && b9) = true := by
  obtain ⟨h1, o, ho, h2⟩ := mem_ready.1 hi
  cases ho
  have e : b10 = false := h1
  have e0 : b0 = true := h2 { on := 0, ground := Ground.data } (by simp) rfl
  have e5 : b5 = true := h2 { on := 5, ground := Ground.data } (by simp) rfl
  have e9 : b9 = true := h2 { on := 9, ground := Ground.data } (by simp) rfl
  subst e e0 e5 e9
  rfl
def fb (b : Bool) : Nat := bif b then 0 else 1
/-- What holds behind each operation. -/
def Inv8 (t0 t1 t2 t3 t4 t5 t8 t9 t11 t12 t13 t14 t15 t16 t17 t18 t19 t20 t21 t22 t23 t24 t25 t26 t27 t28 t29 t30 t31 t32 t33 t34 t35 t36 t37 t38 t39 t40 t41 t42 t43 t44 t45 t46 t47 t48 t49 t50 t51 t52 t53 t54 t55 t56 t57 t58 t59 t60 t61 t62 t63 t64 t65 t66 t67 t68 t69 t70 t71 t72 t73 t74 t75 t76 t77 t78 t79 t80 t81 t82 t83 t84 t85 t86 t87 t88 t89 : Value) (ds : List Deferred) (h vb Bp kk : Nat) (P xl xc ii : Int) (mm : List B) (W : World) (k : Nat) (L : Array Bool) (a : Act) (w : World) : Prop :=
  ∃ b0 b1 b2 b3 b4 b5 b6 b7 b8 b9 b10 : Bool, L = #[b0, b1, b2, b3, b4, b5, b6, b7, b8, b9, b10] ∧ fb b0 + fb b1 + fb b2 + fb b3 + fb b4 + fb b5 + fb b6 + fb b7 + fb b8 + fb b9 + fb b10 ≤ k ∧ a = fr8 t0 t1 t2 t3 t4 t5 t8 t9 t11 t12 t13 t14 t15 t16 t17 t18 t19 t20 t21 t22 t23 t24 t25 t26 t27 t28 t29 t30 t31 t32 t33 t34 t35 t36 t37 t38 t39 t40 t41 t42 t43 t44 t45 t46 t47 t48 t49 t50 t51 t52 t53 t54 t55 t56 t57 t58 t59 t60 t61 t62 t63 t64 t65 t66 t67 t68 t69 t70 t71 t72 t73 t74 t75 t76 t77 t78 t79 t80 t81 t82 t83 t84 t85 t86 t87 t88 t89 ds h vb Bp P xl xc ii (cf mm ii) b0 b1 b2 b3 b4 b5 b6 b7 b8 b9 ∧ WI W w vb kk ii xc mm b6 b10 ∧ (b9 = true → b6 = true)
theorem fb_true {b : Bool} (h : fb b = 0) : b = true := by cases b <;> first | rfl | cases h
set_option maxHeartbeats 4000000 in
theorem step8 (n : Nat) (lc : Nat) (t0 t1 t2 t3 t4 t5 t8 t9 t11 t12 t13 t14 t15 t16 t17 t18 t19 t20 t21 t22 t23 t24 t25 t26 t27 t28 t29 t30 t31 t32 t33 t34 t35 t36 t37 t38 t39 t40 t41 t42 t43 t44 t45 t46 t47 t48 t49 t50 t51 t52 t53 t54 t55 t56 t57 t58 t59 t60 t61 t62 t63 t64 t65 t66 t67 t68 t69 t70 t71 t72 t73 t74 t75 t76 t77 t78 t79 t80 t81 t82 t83 t84 t85 t86 t87 t88 t89 : Value) (ds : List Deferred) (h vb Bp kk : Nat) (P xl xc ii : Int) (mm : List B) (W : World) (Q : Exit → Act → World → Prop)
    (g0 : W.cell? ⟨Bp, 0, none⟩ = some (.int .i64 xc)) (g1 : W.cell? ⟨Bp, 1, none⟩ = some (.int .i64 xl)) (hkt : W.cell? ⟨vb + 1, 0, none⟩ = some (.map (some vb))) (hkh : W.cell? ⟨h, 0, none⟩ = some (.int .i64 P))
    (hwm : vb < W.heap.size) (hwh : h < W.heap.size) (hwt : vb + 1 < W.heap.size) (hwp : Bp < W.heap.size) (hnh : h ≠ vb) (hnp : Bp ≠ vb)
    (HI : ∀ w, Calls Try.prog 39 #[.int .i64 P, .int .i64 xl] w fun e w' => e = .returned (.int .i64 ii) ∧ Below w.heap.size w w')
    (hkk : kk < maxLen) (hin : inI ii) (htt : 1 ≤ xc) (hn : inI (cf mm ii + xc)) (hw1 : wrap64 (cf mm ii + xc) = cf mm ii + xc) (hw2 : IntKind.i64.wrap (cf mm ii + xc) = cf mm ii + xc)
    (k : Nat) (L : Array Bool) (a : Act) (w : World) (i : Nat) (hI : Inv8 t0 t1 t2 t3 t4 t5 t8 t9 t11 t12 t13 t14 t15 t16 t17 t18 t19 t20 t21 t22 t23 t24 t25 t26 t27 t28 t29 t30 t31 t32 t33 t34 t35 t36 t37 t38 t39 t40 t41 t42 t43 t44 t45 t46 t47 t48 t49 t50 t51 t52 t53 t54 t55 t56 t57 t58 t59 t60 t61 t62 t63 t64 t65 t66 t67 t68 t69 t70 t71 t72 t73 t74 t75 t76 t77 t78 t79 t80 t81 t82 t83 t84 t85 t86 t87 t88 t89 ds h vb Bp kk P xl xc ii mm W (k + 1) L a w) (hi : i ∈ Region.ready .any ops8 L) :
    wpOpIn (Fence.wide.inRound lc) n Try.prog ops8 Q i (Inv8 t0 t1 t2 t3 t4 t5 t8 t9 t11 t12 t13 t14 t15 t16 t17 t18 t19 t20 t21 t22 t23 t24 t25 t26 t27 t28 t29 t30 t31 t32 t33 t34 t35 t36 t37 t38 t39 t40 t41 t42 t43 t44 t45 t46 t47 t48 t49 t50 t51 t52 t53 t54 t55 t56 t57 t58 t59 t60 t61 t62 t63 t64 t65 t66 t67 t68 t69 t70 t71 t72 t73 t74 t75 t76 t77 t78 t79 t80 t81 t82 t83 t84 t85 t86 t87 t88 t89 ds h vb Bp kk P xl xc ii mm W k (L.setIfInBounds i true)) a w := by
  obtain ⟨b0, b1, b2, b3, b4, b5, b6, b7, b8, b9, b10, rfl, hk, rfl, hw, hb69⟩ := hI
  have hlt : i < 11 := List.mem_range.1 (List.mem_filter.1 hi).1
  have hcs : i = 0 ∨ i = 1 ∨ i = 2 ∨ i = 3 ∨ i = 4 ∨ i = 5 ∨ i = 6 ∨ i = 7 ∨ i = 8 ∨ i = 9 ∨ i = 10 := by omega
  have ft : fb true = 0 := rfl
  have ff : fb false = 1 := rfl
  rcases hcs with rfl | rfl | rfl | rfl | rfl | rfl | rfl | rfl | rfl | rfl | rfl
  · have hd := dep8_0 _ _ _ _ _ _ _ _ _ _ _ hi
    simp only [Bool.and_eq_true, Bool.not_eq_true'] at hd
    have e0 := hd
    subst e0
    refine op8_0 (hw.cell hwt (by omega) hkt) ?_
    exact ⟨true, b1, b2, b3, b4, b5, b6, b7, b8, b9, b10, rfl, by omega, rfl, hw, hb69⟩
  · have hd := dep8_1 _ _ _ _ _ _ _ _ _ _ _ hi
    simp only [Bool.and_eq_true, Bool.not_eq_true'] at hd
    have e1 := hd
    subst e1
    refine op8_1  ?_
    exact ⟨b0, true, b2, b3, b4, b5, b6, b7, b8, b9, b10, rfl, by omega, rfl, hw, hb69⟩
  · have hd := dep8_2 _ _ _ _ _ _ _ _ _ _ _ hi
    simp only [Bool.and_eq_true, Bool.not_eq_true'] at hd
    obtain ⟨e2, e1⟩ := hd
    subst e2
    subst e1
    refine op8_2 (hw.cell hwh hnh hkh) ?_
    exact ⟨b0, true, true, b3, b4, b5, b6, b7, b8, b9, b10, rfl, by omega, rfl, hw, hb69⟩
  · have hd := dep8_3 _ _ _ _ _ _ _ _ _ _ _ hi
    simp only [Bool.and_eq_true, Bool.not_eq_true'] at hd
    have e3 := hd
    subst e3
    refine op8_3  ?_
    exact ⟨b0, b1, b2, true, b4, b5, b6, b7, b8, b9, b10, rfl, by omega, rfl, hw, hb69⟩
  · have hd := dep8_4 _ _ _ _ _ _ _ _ _ _ _ hi
    simp only [Bool.and_eq_true, Bool.not_eq_true'] at hd
    obtain ⟨e4, e3⟩ := hd
    subst e4
    subst e3
    refine op8_4 (hw.cell hwp hnp g1) ?_
    exact ⟨b0, b1, b2, true, true, b5, b6, b7, b8, b9, b10, rfl, by omega, rfl, hw, hb69⟩
  · have hd := dep8_5 _ _ _ _ _ _ _ _ _ _ _ hi
    simp only [Bool.and_eq_true, Bool.not_eq_true'] at hd
    obtain ⟨⟨e5, e2⟩, e4⟩ := hd
    subst e5
    subst e2
    subst e4
    refine op8_5 HI (fun w5 hb => ?_)
    exact ⟨b0, b1, true, b3, true, true, b6, b7, b8, b9, b10, rfl, by omega, rfl, ⟨grown_more hw.grown hb, fun e => (hw.before e).same (hb.block vb (Nat.lt_of_lt_of_le hwm hw.grown.size)), fun e => ⟨(hw.after e).1, (hw.after e).2.same (hb.block vb (Nat.lt_of_lt_of_le hwm hw.grown.size))⟩⟩, hb69⟩
  · have hd := dep8_6 _ _ _ _ _ _ _ _ _ _ _ hi
    simp only [Bool.and_eq_true, Bool.not_eq_true'] at hd
    obtain ⟨⟨e6, e0⟩, e5⟩ := hd
    subst e6
    subst e0
    subst e5
    have h10 : b10 = false := by
      cases hb : b10
      · rfl
      · have := (hw.after hb).1
        cases this
    have hl := (hw.before h10).look hin
    refine op8_6 hl ?_
    exact ⟨true, b1, b2, b3, b4, true, true, b7, b8, b9, b10, rfl, by omega, rfl, ⟨hw.grown, hw.before, fun e => ⟨rfl, (hw.after e).2⟩⟩, fun _ => rfl⟩
  · have hd := dep8_7 _ _ _ _ _ _ _ _ _ _ _ hi
    simp only [Bool.and_eq_true, Bool.not_eq_true'] at hd
    have e7 := hd
    subst e7
    refine op8_7  ?_
    exact ⟨b0, b1, b2, b3, b4, b5, b6, true, b8, b9, b10, rfl, by omega, rfl, hw, hb69⟩
  · have hd := dep8_8 _ _ _ _ _ _ _ _ _ _ _ hi
    simp only [Bool.and_eq_true, Bool.not_eq_true'] at hd
    obtain ⟨e8, e7⟩ := hd
    subst e8
    subst e7
    refine op8_8 (hw.cell hwp hnp g0) ?_
    exact ⟨b0, b1, b2, b3, b4, b5, b6, true, true, b9, b10, rfl, by omega, rfl, hw, hb69⟩
  · have hd := dep8_9 _ _ _ _ _ _ _ _ _ _ _ hi
    simp only [Bool.and_eq_true, Bool.not_eq_true'] at hd
    obtain ⟨⟨e9, e6⟩, e8⟩ := hd
    subst e9
    subst e6
    subst e8
    refine op8_9 hw2 hw1 ?_
    exact ⟨b0, b1, b2, b3, b4, b5, true, b7, true, true, b10, rfl, by omega, rfl, hw, fun _ => rfl⟩
  · have hd := dep8_10 _ _ _ _ _ _ _ _ _ _ _ hi
    simp only [Bool.and_eq_true, Bool.not_eq_true'] at hd
    obtain ⟨⟨⟨e10, e0⟩, e5⟩, e9⟩ := hd
    subst e10
    subst e0
    subst e5
    subst e9
    have h6 : b6 = true := hb69 rfl
    obtain ⟨w6, hup, cm6, hg6⟩ := (hw.before rfl).add hkk hin htt hn
    refine op8_10 hup ?_
    exact ⟨true, b1, b2, b3, b4, true, b6, b7, b8, true, true, rfl, by omega, rfl, ⟨grown_two hw.grown hg6, (fun e => by cases e), fun _ => ⟨h6, cm6⟩⟩, hb69⟩
theorem region8 {n : Nat} {lc : Nat} {t0 t1 t2 t3 t4 t5 t8 t9 t11 t12 t13 t14 t15 t16 t17 t18 t19 t20 t21 t22 t23 t24 t25 t26 t27 t28 t29 t30 t31 t32 t33 t34 t35 t36 t37 t38 t39 t40 t41 t42 t43 t44 t45 t46 t47 t48 t49 t50 t51 t52 t53 t54 t55 t56 t57 t58 t59 t60 t61 t62 t63 t64 t65 t66 t67 t68 t69 t70 t71 t72 t73 t74 t75 t76 t77 t78 t79 t80 t81 t82 t83 t84 t85 t86 t87 t88 t89 : Value} {ds : List Deferred} {h vb Bp kk : Nat} {P xl xc ii : Int} {mm : List B} {W : World} {Q : Exit → Act → World → Prop}
    (g0 : W.cell? ⟨Bp, 0, none⟩ = some (.int .i64 xc)) (g1 : W.cell? ⟨Bp, 1, none⟩ = some (.int .i64 xl)) (hkt : W.cell? ⟨vb + 1, 0, none⟩ = some (.map (some vb))) (hkh : W.cell? ⟨h, 0, none⟩ = some (.int .i64 P))
    (hwm : vb < W.heap.size) (hwh : h < W.heap.size) (hwt : vb + 1 < W.heap.size) (hwp : Bp < W.heap.size) (hnh : h ≠ vb) (hnp : Bp ≠ vb)
    (HI : ∀ w, Calls Try.prog 39 #[.int .i64 P, .int .i64 xl] w fun e w' => e = .returned (.int .i64 ii) ∧ Below w.heap.size w w')
    (hc : CntM W vb kk mm) (hkk : kk < maxLen) (hin : inI ii) (htt : 1 ≤ xc) (hn : inI (cf mm ii + xc)) (hw1 : wrap64 (cf mm ii + xc) = cf mm ii + xc) (hw2 : IntKind.i64.wrap (cf mm ii + xc) = cf mm ii + xc)
    (hend : ∀ V6, CntM V6 vb (kk + 1) (put ii xc mm) ∧ W.grownBy V6 (some vb) → Q Exit.normal { tmps := #[t0, t1, t2, t3, t4, t5, .pointer (some ⟨h, 0, none⟩), .pointer (some ⟨vb + 1, 0, none⟩), t8, t9, .pointer (some ⟨Bp, 0, none⟩), t11, t12, t13, t14, t15, t16, t17, t18, t19, t20, t21, t22, t23, t24, t25, t26, t27, t28, t29, t30, t31, t32, t33, t34, t35, t36, t37, t38, t39, t40, t41, t42, t43, t44, t45, t46, t47, t48, t49, .map (some vb), .pointer (some ⟨h, 0, none⟩), .int .i64 P, .pointer (some ⟨Bp, 1, none⟩), .int .i64 xl, .int .i64 ii, .int .i64 (cf mm ii), .pointer (some ⟨Bp, 0, none⟩), .int .i64 xc, .int .i64 (cf mm ii + xc), t60, t61, t62, t63, t64, t65, t66, t67, t68, t69, t70, t71, t72, t73, t74, t75, t76, t77, t78, t79, t80, t81, t82, t83, t84, t85, t86, t87, t88, t89], defers := ds } V6) :
    Code.wpIn (Fence.wide.inRound lc) n Try.prog (Code.region 8 ops8 true) Q { tmps := #[t0, t1, t2, t3, t4, t5, .pointer (some ⟨h, 0, none⟩), .pointer (some ⟨vb + 1, 0, none⟩), t8, t9, .pointer (some ⟨Bp, 0, none⟩), t11, t12, t13, t14, t15, t16, t17, t18, t19, t20, t21, t22, t23, t24, t25, t26, t27, t28, t29, t30, t31, t32, t33, t34, t35, t36, t37, t38, t39, t40, t41, t42, t43, t44, t45, t46, t47, t48, t49, t50, t51, t52, t53, t54, t55, t56, t57, t58, t59, t60, t61, t62, t63, t64, t65, t66, t67, t68, t69, t70, t71, t72, t73, t74, t75, t76, t77, t78, t79, t80, t81, t82, t83, t84, t85, t86, t87, t88, t89], defers := ds } W := by
  refine wpIn_region_any (by kernel_rfl) ?_
  refine any_inv (Inv8 t0 t1 t2 t3 t4 t5 t8 t9 t11 t12 t13 t14 t15 t16 t17 t18 t19 t20 t21 t22 t23 t24 t25 t26 t27 t28 t29 t30 t31 t32 t33 t34 t35 t36 t37 t38 t39 t40 t41 t42 t43 t44 t45 t46 t47 t48 t49 t50 t51 t52 t53 t54 t55 t56 t57 t58 t59 t60 t61 t62 t63 t64 t65 t66 t67 t68 t69 t70 t71 t72 t73 t74 t75 t76 t77 t78 t79 t80 t81 t82 t83 t84 t85 t86 t87 t88 t89 ds h vb Bp kk P xl xc ii mm W) ?_ ?_ ?_ 11 _ _ _ ?_
  · rintro L a w ⟨b0, b1, b2, b3, b4, b5, b6, b7, b8, b9, b10, rfl, hk, -, -, -⟩
    have a0 := fb_true (b := b0) (by omega)
    have a1 := fb_true (b := b1) (by omega)
    have a2 := fb_true (b := b2) (by omega)
    have a3 := fb_true (b := b3) (by omega)
    have a4 := fb_true (b := b4) (by omega)
    have a5 := fb_true (b := b5) (by omega)
    have a6 := fb_true (b := b6) (by omega)
    have a7 := fb_true (b := b7) (by omega)
    have a8 := fb_true (b := b8) (by omega)
    have a9 := fb_true (b := b9) (by omega)
    have a10 := fb_true (b := b10) (by omega)
    subst a0 a1 a2 a3 a4 a5 a6 a7 a8 a9 a10
    decide +kernel
  · rintro k L a w ⟨b0, b1, b2, b3, b4, b5, b6, b7, b8, b9, b10, rfl, hk, rfl, hw, -⟩ hr
    have ha := ready8 _ _ _ _ _ _ _ _ _ _ _ hr
    simp only [Bool.and_eq_true] at ha
    obtain ⟨⟨⟨⟨⟨⟨⟨⟨⟨⟨rfl, rfl⟩, rfl⟩, rfl⟩, rfl⟩, rfl⟩, rfl⟩, rfl⟩, rfl⟩, rfl⟩, rfl⟩ := ha
    exact hend w ⟨(hw.after rfl).2, hw.grown⟩
  · intro k L a w i hI hi
    exact step8 n lc t0 t1 t2 t3 t4 t5 t8 t9 t11 t12 t13 t14 t15 t16 t17 t18 t19 t20 t21 t22 t23 t24 t25 t26 t27 t28 t29 t30 t31 t32 t33 t34 t35 t36 t37 t38 t39 t40 t41 t42 t43 t44 t45 t46 t47 t48 t49 t50 t51 t52 t53 t54 t55 t56 t57 t58 t59 t60 t61 t62 t63 t64 t65 t66 t67 t68 t69 t70 t71 t72 t73 t74 t75 t76 t77 t78 t79 t80 t81 t82 t83 t84 t85 t86 t87 t88 t89 ds h vb Bp kk P xl xc ii mm W Q g0 g1 hkt hkh hwm hwh hwt hwp hnh hnp HI hkk hin htt hn hw1 hw2 k L a w i hI hi
  · exact ⟨false, false, false, false, false, false, false, false, false, false, false, rfl, by decide, rfl, ⟨⟨rfl, rfl, rfl, Nat.le_refl _, fun _ _ _ => rfl⟩, fun _ => hc, fun e => by cases e⟩, fun e => by cases e⟩
end Go.Proofs.Ytffnopdpndpngaa.Lh
