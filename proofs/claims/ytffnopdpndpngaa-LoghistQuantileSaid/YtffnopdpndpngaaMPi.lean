/- The program's reduced, over its callees. -/
import Derived.Test.YtffnopdpndpngaaMPf
set_option linter.unusedVariables false
set_option linter.unusedSimpArgs false
namespace Go.Proofs.Ytffnopdpndpngaa.Pro
open Go.RowKit
set_option maxHeartbeats 8000000 in
set_option maxRecDepth 100000 in
theorem reduced_raw (n1 n2 m1 m2 a1 a2 b1 b2 g1 g2 c1 c2 d1 d2 p1 p2 q1 q2 : Int) (ea eb : Option Int) (s t : Bool) (hea : ∀ x, ea = some x → 0 ≤ x ∧ x ≤ 1152921504606846976)
    (MA : Hid (∀ w : World, Calls Try.prog 89 #[.agg #[.int .u64 n1, .int .u64 n2]] w fun e w' => e = .returned (.agg #[.int .u64 a1, .int .u64 a2]) ∧ Below w.heap.size w w'))
    (MB : Hid (∀ w : World, Calls Try.prog 89 #[.agg #[.int .u64 m1, .int .u64 m2]] w fun e w' => e = .returned (.agg #[.int .u64 b1, .int .u64 b2]) ∧ Below w.heap.size w w'))
    (GC : Hid (∀ w : World, Calls Try.prog 90 #[.agg #[.int .u64 a1, .int .u64 a2], .agg #[.int .u64 b1, .int .u64 b2]] w fun e w' => e = .returned (.agg #[.int .u64 g1, .int .u64 g2]) ∧ Below w.heap.size w w'))
    (DA : Hid (∀ w : World, Calls Try.prog 91 #[.agg #[.int .u64 a1, .int .u64 a2], .agg #[.int .u64 g1, .int .u64 g2]] w fun e w' => e = .returned (.tuple #[.agg #[.int .u64 c1, .int .u64 c2], .agg #[.int .u64 p1, .int .u64 p2]]) ∧ Below w.heap.size w w'))
    (DB : Hid (∀ w : World, Calls Try.prog 91 #[.agg #[.int .u64 b1, .int .u64 b2], .agg #[.int .u64 g1, .int .u64 g2]] w fun e w' => e = .returned (.tuple #[.agg #[.int .u64 d1, .int .u64 d2], .agg #[.int .u64 q1, .int .u64 q2]]) ∧ Below w.heap.size w w'))
    (NA : Hid (∀ w : World, Calls Try.prog 92 #[.agg #[.int .u64 c1, .int .u64 c2]] w fun e w' => e = narE ea ∧ Below w.heap.size w w'))
    (NB : Hid (∀ w : World, Calls Try.prog 92 #[.agg #[.int .u64 d1, .int .u64 d2]] w fun e w' => e = narE eb ∧ Below w.heap.size w w'))
    (SA : Hid (∀ w : World, Calls Try.prog 93 #[.agg #[.int .u64 n1, .int .u64 n2]] w fun e w' => e = .returned (.bool s) ∧ Below w.heap.size w w'))
    (SB : Hid (∀ w : World, Calls Try.prog 93 #[.agg #[.int .u64 m1, .int .u64 m2]] w fun e w' => e = .returned (.bool t) ∧ Below w.heap.size w w')) (w : World) :
    Calls Try.prog 73 #[.agg #[.int .u64 n1, .int .u64 n2], .agg #[.int .u64 m1, .int .u64 m2]] w fun e w' => e = redE ea eb (s == t) ∧ Below w.heap.size w w' := by
  have HEA := Lib.hid hea
  clear hea
  have h0 := (R3.start w n1 n2 m1 m2).all
  have hk0 := R3k.mk h0.1
  go_enter Try.func73, Try.ntmps73
  go_upto_region 1 with fail
  go_cut [5, 6] from 9 to 12 (fun v5 v6 wx => R5 w n1 n2 m1 m2 a1 a2 b1 b2 v5 v6 wx)
  case first =>
    generalize (((w.alloc (.cells #[.int .u64 n1, .int .u64 n2] 96)).alloc (.cells #[.int .u64 m1, .int .u64 m2] 96)).alloc (.cells #[.int .i64 0, .int .i64 0] 42)) = w0 at *
    go_region_held3 (fun V => R3 w n1 n2 m1 m2 V ∧ V.cell? ⟨w.heap.size, 0, none⟩ = some (.int .u64 n1) ∧ V.cell? ⟨w.heap.size, 1, none⟩ = some (.int .u64 n2) ∧ V.cell? ⟨w.heap.size + 1, 0, none⟩ = some (.int .u64 m1) ∧ V.cell? ⟨w.heap.size + 1, 1, none⟩ = some (.int .u64 m2))
      ((refine R3.all ?_; (with_reducible repeat (first | exact R3k.out (by assumption) | apply R3.drew | apply R3.alloc | refine R3.store _ _ (Zb.big (by assumption)) ?_))))
      (first
        | (go_at_call 89; (with_reducible first | (refine (MA.out _).mono ?_) | (refine (MB.out _).mono ?_)); rintro e w' ⟨rfl, hb⟩; (have hk := R3k.mk (R3.step hb (by (with_reducible repeat (first | exact R3k.out (by assumption) | apply R3.drew | apply R3.alloc | refine R3.store _ _ (Zb.big (by assumption)) ?_))))); (with_reducible first
            | (have z := (ZZ.mk2d hb (by (with_reducible repeat (first | exact R3k.out (by assumption) | apply R3.drew | apply R3.alloc | refine R3.store _ _ (Zb.big (by assumption)) ?_)))).all; obtain ⟨_, ⟨_, _, _, _, _, _⟩, ⟨_, _, _, _, _, _⟩, _, _⟩ := z)
            | (have z := (ZZ.mk2 hb (by (with_reducible repeat (first | exact R3k.out (by assumption) | apply R3.drew | apply R3.alloc | refine R3.store _ _ (Zb.big (by assumption)) ?_)))).all; obtain ⟨_, ⟨_, _, _, _, _, _⟩, ⟨_, _, _, _, _, _⟩, _, _⟩ := z)
            | (have z := (ZZ.mix hb (by (with_reducible repeat (first | exact R3k.out (by assumption) | apply R3.drew | apply R3.alloc | refine R3.store _ _ (Zb.big (by assumption)) ?_))) (by assumption)).all; obtain ⟨_, ⟨_, _, _, _, _, _⟩, ⟨_, _, _, _, _, _⟩, _, _⟩ := z)
            | (have z := (ZZ.pass hb (by assumption)).all; obtain ⟨_, ⟨_, _, _, _, _, _⟩, ⟨_, _, _, _, _, _⟩, _, _⟩ := z)
            | (have z := (Zb.mk1d hb (by (with_reducible repeat (first | exact R3k.out (by assumption) | apply R3.drew | apply R3.alloc | refine R3.store _ _ (Zb.big (by assumption)) ?_)))).all; obtain ⟨_, _, _, _, _, _⟩ := z)
            | (have z := (Zb.mk1 hb (by (with_reducible repeat (first | exact R3k.out (by assumption) | apply R3.drew | apply R3.alloc | refine R3.store _ _ (Zb.big (by assumption)) ?_)))).all; obtain ⟨_, _, _, _, _, _⟩ := z)
            | (have z := (Zb.step hb (by assumption)).all; obtain ⟨_, _, _, _, _, _⟩ := z)
            | skip)))
    all_goals go_wp2
    all_goals go_meet
    all_goals (with_reducible first
      | exact R5.l1 (R3k.out (by assumption))
      | exact R5.l2 (R3k.out (by assumption))
      | exact R5.l3 (R3k.out (by assumption)) (by assumption)
      | exact R5.l4 (R3k.out (by assumption)) (by assumption)
      | exact R5.l5 (R3k.out (by assumption)) (by assumption)
      | exact R5.l6 (R3k.out (by assumption)) (by assumption))
  case rest =>
    obtain ⟨g, k, rfl, rfl, hne, hR, hg, hk⟩ := hcut
    clear h0 hk0 MA MB
    obtain ⟨_, x1, x2, x3, x4, x5⟩ := hg.all
    obtain ⟨_, y1, y2, y3, y4, y5⟩ := hk.all
    have H1 := Lib.hid (And.intro hR (And.intro hg hk))
    have HNE := Lib.hid hne
    clear hR hg hk hne
    go_wp2_with fail
    refine (GC.out _).mono ?_
    rintro e w1 ⟨rfl, hb1⟩
    have H2 := Lib.hid (R5.step hb1 H1.out)
    clear hb1 H1 GC x1 x2 x3 x4 x5 y1 y2 y3 y4 y5
    obtain ⟨_, x1, x2, x3, x4, x5⟩ := H2.out.2.1.all
    obtain ⟨_, y1, y2, y3, y4, y5⟩ := H2.out.2.2.all
    have HG2 := Lib.hid (Zb.new (V := w1) (.int .u64 g1) (.int .u64 g2) 96 H2.out.1.lt)
    have H3 := Lib.hid (R5.step ((Below.refl _ _).alloc (Nat.le_refl _) (.cells #[.int .u64 g1, .int .u64 g2] 96)) H2.out)
    have hng : g ≠ w1.heap.size := Nat.ne_of_lt H2.out.2.1.lt
    have hnk : k ≠ w1.heap.size := Nat.ne_of_lt H2.out.2.2.lt
    go_upto_region 3 with fail
    generalize w1.alloc (.cells #[.int .u64 g1, .int .u64 g2] 96) = w2 at *
    clear H2 x1 x2 x3 x4 x5 y1 y2 y3 y4 y5
    generalize w1.heap.size = gg at *
    have HN2 := Lib.hid (And.intro hng hnk)
    clear hng hnk
    obtain ⟨_, x1, x2, x3, x4, x5⟩ := H3.out.2.1.all
    obtain ⟨_, y1, y2, y3, y4, y5⟩ := H3.out.2.2.all
    obtain ⟨_, z1, z2, z3, z4, z5⟩ := HG2.out.all
    go_wp2_with fail
    refine (DA.out _).mono ?_
    rintro e w3 ⟨rfl, hb3⟩
    have H4 := Lib.hid (R5.step hb3 H3.out)
    have HG4 := Lib.hid (HG2.out.step hb3)
    clear hb3 H3 HG2 DA x1 x2 x3 x4 x5 y1 y2 y3 y4 y5 z1 z2 z3 z4 z5
    obtain ⟨_, x1, x2, x3, x4, x5⟩ := H4.out.2.1.all
    obtain ⟨_, y1, y2, y3, y4, y5⟩ := H4.out.2.2.all
    obtain ⟨_, z1, z2, z3, z4, z5⟩ := HG4.out.all
    have H5 : Hid (R3 w n1 n2 m1 m2 ((w3.setCell ⟨g, 0, none⟩ (.int .u64 c1)).setCell ⟨g, 1, none⟩ (.int .u64 c2)) ∧ Zb w ((w3.setCell ⟨g, 0, none⟩ (.int .u64 c1)).setCell ⟨g, 1, none⟩ (.int .u64 c2)) g (.int .u64 c1) (.int .u64 c2) 96 ∧ Zb w ((w3.setCell ⟨g, 0, none⟩ (.int .u64 c1)).setCell ⟨g, 1, none⟩ (.int .u64 c2)) k (.int .u64 b1) (.int .u64 b2) 96) :=
      ⟨H4.out.1.store _ _ H4.out.2.1.big, H4.out.2.1.set, H4.out.2.2.other (Ne.symm HNE.out)⟩
    have HG5 : Hid (Zb w ((w3.setCell ⟨g, 0, none⟩ (.int .u64 c1)).setCell ⟨g, 1, none⟩ (.int .u64 c2)) gg (.int .u64 g1) (.int .u64 g2) 96) := HG4.out.other (Ne.symm HN2.out.1)
    go_upto_region 4 with fail
    clear H4 HG4 x1 x2 x3 x4 x5 y1 y2 y3 y4 y5 z1 z2 z3 z4 z5
    generalize ((w3.setCell ⟨g, 0, none⟩ (.int .u64 c1)).setCell ⟨g, 1, none⟩ (.int .u64 c2)) = w4 at *
    obtain ⟨_, x1, x2, x3, x4, x5⟩ := H5.out.2.1.all
    obtain ⟨_, y1, y2, y3, y4, y5⟩ := H5.out.2.2.all
    obtain ⟨_, z1, z2, z3, z4, z5⟩ := HG5.out.all
    go_wp2_with fail
    refine (DB.out _).mono ?_
    rintro e w5 ⟨rfl, hb5⟩
    have H6 := Lib.hid (R5.step hb5 H5.out)
    clear hb5 H5 HG5 DB x1 x2 x3 x4 x5 y1 y2 y3 y4 y5 z1 z2 z3 z4 z5
    obtain ⟨_, y1, y2, y3, y4, y5⟩ := H6.out.2.2.all
    have hR7 : R7 w n1 n2 m1 m2 g k c1 c2 d1 d2 ((w5.setCell ⟨k, 0, none⟩ (.int .u64 d1)).setCell ⟨k, 1, none⟩ (.int .u64 d2)) :=
      ⟨H6.out.1.store _ _ H6.out.2.2.big, H6.out.2.1.other HNE.out, H6.out.2.2.set⟩
    go_upto_region 5 with fail
    clear H6 y1 y2 y3 y4 y5 HN2 HNE
    generalize ((w5.setCell ⟨k, 0, none⟩ (.int .u64 d1)).setCell ⟨k, 1, none⟩ (.int .u64 d2)) = w6 at *
    have hk7 := R7k.mk hR7
    have h7 := hR7.all
    clear hR7
    rcases ea with _ | x
    · unfold narE at NA
      obtain ⟨_, u1, u2, u3, u4⟩ := h7
      have hgl := hk7.out.zg.lt
      have hkl := hk7.out.zk.lt
      refine wp_region_any (by kernel_rfl) ?_
      change wpAny _ _ _ _ _ _ _ (World.drew _)
      refine wpAny_ready (rs := [0, 2, 5]) (by kernel_rfl) (by simp) ?_
      refine AllReady.cons rfl (fun K hK => ?_) ?_
      · go_simp
        refine hK _ _ ?_
        clear hK K
        refine wpAny_ready (rs := [1, 2, 5]) (by kernel_rfl) (by simp) ?_
        refine AllReady.cons rfl (fun K hK => ?_) ?_
        · go_simp
          go_wp2_with (go_at_call 92; (with_reducible first | (refine (NA.out _).mono ?_) | (refine (NB.out _).mono ?_)); rintro e w' ⟨rfl, hb⟩; (have hk := R7k.mk (R7.step hb (by (with_reducible repeat (first | exact R7k.out (by assumption) | apply R7.drew | apply R7.alloc | refine R7.store _ _ (Zn.ne (by assumption)) ?_))))); exact ⟨rfl, rfl, hk.out.r.has.1⟩)
        refine AllReady.cons rfl (fun K hK => ?_) ?_
        · go_simp
          refine hK _ _ ?_
          clear hK K
          refine wpAny_ready (rs := [1, 5]) (by kernel_rfl) (by simp) ?_
          refine AllReady.cons rfl (fun K hK => ?_) ?_
          · go_simp
            go_wp2_with (go_at_call 92; (with_reducible first | (refine (NA.out _).mono ?_) | (refine (NB.out _).mono ?_)); rintro e w' ⟨rfl, hb⟩; (have hk := R7k.mk (R7.step hb (by (with_reducible repeat (first | exact R7k.out (by assumption) | apply R7.drew | apply R7.alloc | refine R7.store _ _ (Zn.ne (by assumption)) ?_))))); exact ⟨rfl, rfl, hk.out.r.has.1⟩)
          refine AllReady.cons rfl (fun K hK => ?_) ?_
          · go_simp
            refine hK _ _ ?_
            clear hK K
            refine wpAny_ready (rs := [1]) (by kernel_rfl) (by simp) ?_
            refine AllReady.cons rfl (fun K hK => ?_) ?_
            · go_simp
              go_wp2_with (go_at_call 92; (with_reducible first | (refine (NA.out _).mono ?_) | (refine (NB.out _).mono ?_)); rintro e w' ⟨rfl, hb⟩; (have hk := R7k.mk (R7.step hb (by (with_reducible repeat (first | exact R7k.out (by assumption) | apply R7.drew | apply R7.alloc | refine R7.store _ _ (Zn.ne (by assumption)) ?_))))); exact ⟨rfl, rfl, hk.out.r.has.1⟩)
            exact AllReady.nil
          exact AllReady.nil
        refine AllReady.cons rfl (fun K hK => ?_) ?_
        · go_simp
          refine hK _ _ ?_
          clear hK K
          refine wpAny_ready (rs := [1, 2]) (by kernel_rfl) (by simp) ?_
          refine AllReady.cons rfl (fun K hK => ?_) ?_
          · go_simp
            go_wp2_with (go_at_call 92; (with_reducible first | (refine (NA.out _).mono ?_) | (refine (NB.out _).mono ?_)); rintro e w' ⟨rfl, hb⟩; (have hk := R7k.mk (R7.step hb (by (with_reducible repeat (first | exact R7k.out (by assumption) | apply R7.drew | apply R7.alloc | refine R7.store _ _ (Zn.ne (by assumption)) ?_))))); exact ⟨rfl, rfl, hk.out.r.has.1⟩)
          refine AllReady.cons rfl (fun K hK => ?_) ?_
          · go_simp
            refine hK _ _ ?_
            clear hK K
            refine wpAny_ready (rs := [1]) (by kernel_rfl) (by simp) ?_
            refine AllReady.cons rfl (fun K hK => ?_) ?_
            · go_simp
              go_wp2_with (go_at_call 92; (with_reducible first | (refine (NA.out _).mono ?_) | (refine (NB.out _).mono ?_)); rintro e w' ⟨rfl, hb⟩; (have hk := R7k.mk (R7.step hb (by (with_reducible repeat (first | exact R7k.out (by assumption) | apply R7.drew | apply R7.alloc | refine R7.store _ _ (Zn.ne (by assumption)) ?_))))); exact ⟨rfl, rfl, hk.out.r.has.1⟩)
            exact AllReady.nil
          exact AllReady.nil
        exact AllReady.nil
      refine AllReady.cons rfl (fun K hK => ?_) ?_
      · go_simp
        refine hK _ _ ?_
        clear hK K
        refine wpAny_ready (rs := [0, 5]) (by kernel_rfl) (by simp) ?_
        refine AllReady.cons rfl (fun K hK => ?_) ?_
        · go_simp
          refine hK _ _ ?_
          clear hK K
          refine wpAny_ready (rs := [1, 5]) (by kernel_rfl) (by simp) ?_
          refine AllReady.cons rfl (fun K hK => ?_) ?_
          · go_simp
            go_wp2_with (go_at_call 92; (with_reducible first | (refine (NA.out _).mono ?_) | (refine (NB.out _).mono ?_)); rintro e w' ⟨rfl, hb⟩; (have hk := R7k.mk (R7.step hb (by (with_reducible repeat (first | exact R7k.out (by assumption) | apply R7.drew | apply R7.alloc | refine R7.store _ _ (Zn.ne (by assumption)) ?_))))); exact ⟨rfl, rfl, hk.out.r.has.1⟩)
          refine AllReady.cons rfl (fun K hK => ?_) ?_
          · go_simp
            refine hK _ _ ?_
            clear hK K
            refine wpAny_ready (rs := [1]) (by kernel_rfl) (by simp) ?_
            refine AllReady.cons rfl (fun K hK => ?_) ?_
            · go_simp
              go_wp2_with (go_at_call 92; (with_reducible first | (refine (NA.out _).mono ?_) | (refine (NB.out _).mono ?_)); rintro e w' ⟨rfl, hb⟩; (have hk := R7k.mk (R7.step hb (by (with_reducible repeat (first | exact R7k.out (by assumption) | apply R7.drew | apply R7.alloc | refine R7.store _ _ (Zn.ne (by assumption)) ?_))))); exact ⟨rfl, rfl, hk.out.r.has.1⟩)
            exact AllReady.nil
          exact AllReady.nil
        refine AllReady.cons rfl (fun K hK => ?_) ?_
        · go_simp
          refine hK _ _ ?_
          clear hK K
          refine wpAny_ready (rs := [0]) (by kernel_rfl) (by simp) ?_
          refine AllReady.cons rfl (fun K hK => ?_) ?_
          · go_simp
            refine hK _ _ ?_
            clear hK K
            refine wpAny_ready (rs := [1]) (by kernel_rfl) (by simp) ?_
            refine AllReady.cons rfl (fun K hK => ?_) ?_
            · go_simp
              go_wp2_with (go_at_call 92; (with_reducible first | (refine (NA.out _).mono ?_) | (refine (NB.out _).mono ?_)); rintro e w' ⟨rfl, hb⟩; (have hk := R7k.mk (R7.step hb (by (with_reducible repeat (first | exact R7k.out (by assumption) | apply R7.drew | apply R7.alloc | refine R7.store _ _ (Zn.ne (by assumption)) ?_))))); exact ⟨rfl, rfl, hk.out.r.has.1⟩)
            exact AllReady.nil
          exact AllReady.nil
        exact AllReady.nil
      refine AllReady.cons rfl (fun K hK => ?_) ?_
      · go_simp
        refine hK _ _ ?_
        clear hK K
        refine wpAny_ready (rs := [0, 2]) (by kernel_rfl) (by simp) ?_
        refine AllReady.cons rfl (fun K hK => ?_) ?_
        · go_simp
          refine hK _ _ ?_
          clear hK K
          refine wpAny_ready (rs := [1, 2]) (by kernel_rfl) (by simp) ?_
          refine AllReady.cons rfl (fun K hK => ?_) ?_
          · go_simp
            go_wp2_with (go_at_call 92; (with_reducible first | (refine (NA.out _).mono ?_) | (refine (NB.out _).mono ?_)); rintro e w' ⟨rfl, hb⟩; (have hk := R7k.mk (R7.step hb (by (with_reducible repeat (first | exact R7k.out (by assumption) | apply R7.drew | apply R7.alloc | refine R7.store _ _ (Zn.ne (by assumption)) ?_))))); exact ⟨rfl, rfl, hk.out.r.has.1⟩)
          refine AllReady.cons rfl (fun K hK => ?_) ?_
          · go_simp
            refine hK _ _ ?_
            clear hK K
            refine wpAny_ready (rs := [1]) (by kernel_rfl) (by simp) ?_
            refine AllReady.cons rfl (fun K hK => ?_) ?_
            · go_simp
              go_wp2_with (go_at_call 92; (with_reducible first | (refine (NA.out _).mono ?_) | (refine (NB.out _).mono ?_)); rintro e w' ⟨rfl, hb⟩; (have hk := R7k.mk (R7.step hb (by (with_reducible repeat (first | exact R7k.out (by assumption) | apply R7.drew | apply R7.alloc | refine R7.store _ _ (Zn.ne (by assumption)) ?_))))); exact ⟨rfl, rfl, hk.out.r.has.1⟩)
            exact AllReady.nil
          exact AllReady.nil
        refine AllReady.cons rfl (fun K hK => ?_) ?_
        · go_simp
          refine hK _ _ ?_
          clear hK K
          refine wpAny_ready (rs := [0]) (by kernel_rfl) (by simp) ?_
          refine AllReady.cons rfl (fun K hK => ?_) ?_
          · go_simp
            refine hK _ _ ?_
            clear hK K
            refine wpAny_ready (rs := [1]) (by kernel_rfl) (by simp) ?_
            refine AllReady.cons rfl (fun K hK => ?_) ?_
            · go_simp
              go_wp2_with (go_at_call 92; (with_reducible first | (refine (NA.out _).mono ?_) | (refine (NB.out _).mono ?_)); rintro e w' ⟨rfl, hb⟩; (have hk := R7k.mk (R7.step hb (by (with_reducible repeat (first | exact R7k.out (by assumption) | apply R7.drew | apply R7.alloc | refine R7.store _ _ (Zn.ne (by assumption)) ?_))))); exact ⟨rfl, rfl, hk.out.r.has.1⟩)
            exact AllReady.nil
          exact AllReady.nil
        exact AllReady.nil
      exact AllReady.nil
    · rcases eb with _ | y
      · unfold narE at NA NB
        obtain ⟨_, u1, u2, u3, u4⟩ := h7
        have hgl := hk7.out.zg.lt
        have hkl := hk7.out.zk.lt
        refine wp_region_any (by kernel_rfl) ?_
        change wpAny _ _ _ _ _ _ _ (World.drew _)
        refine wpAny_ready (rs := [0, 2, 5]) (by kernel_rfl) (by simp) ?_
        refine AllReady.cons rfl (fun K hK => ?_) ?_
        · go_simp
          refine hK _ _ ?_
          clear hK K
          refine wpAny_ready (rs := [1, 2, 5]) (by kernel_rfl) (by simp) ?_
          refine AllReady.cons rfl (fun K hK => ?_) ?_
          · go_simp
            go_wp2_with (go_at_call 92; (with_reducible first | (refine (NA.out _).mono ?_) | (refine (NB.out _).mono ?_)); rintro e w' ⟨rfl, hb⟩; (have hk := R7k.mk (R7.step hb (by (with_reducible repeat (first | exact R7k.out (by assumption) | apply R7.drew | apply R7.alloc | refine R7.store _ _ (Zn.ne (by assumption)) ?_))))); (have hgl := hk.out.zg.lt); (have hkl := hk.out.zk.lt); (obtain ⟨_, _, _, _, _⟩ := hk.out.all))
            try (refine hK _ _ ?_; clear hK K)
            refine wpAny_ready (rs := [2, 5]) (by kernel_rfl) (by simp) ?_
            refine AllReady.cons rfl (fun K hK => ?_) ?_
            · go_simp
              refine hK _ _ ?_
              clear hK K
              refine wpAny_ready (rs := [3, 5]) (by kernel_rfl) (by simp) ?_
              refine AllReady.cons rfl (fun K hK => ?_) ?_
              · go_simp
                go_wp2_with (go_at_call 92; (with_reducible first | (refine (NA.out _).mono ?_) | (refine (NB.out _).mono ?_)); rintro e w' ⟨rfl, hb⟩; (have hk := R7k.mk (R7.step hb (by (with_reducible repeat (first | exact R7k.out (by assumption) | apply R7.drew | apply R7.alloc | refine R7.store _ _ (Zn.ne (by assumption)) ?_))))); exact ⟨rfl, rfl, hk.out.r.has.1⟩)
              refine AllReady.cons rfl (fun K hK => ?_) ?_
              · go_simp
                refine hK _ _ ?_
                clear hK K
                refine wpAny_ready (rs := [3]) (by kernel_rfl) (by simp) ?_
                refine AllReady.cons rfl (fun K hK => ?_) ?_
                · go_simp
                  go_wp2_with (go_at_call 92; (with_reducible first | (refine (NA.out _).mono ?_) | (refine (NB.out _).mono ?_)); rintro e w' ⟨rfl, hb⟩; (have hk := R7k.mk (R7.step hb (by (with_reducible repeat (first | exact R7k.out (by assumption) | apply R7.drew | apply R7.alloc | refine R7.store _ _ (Zn.ne (by assumption)) ?_))))); exact ⟨rfl, rfl, hk.out.r.has.1⟩)
                exact AllReady.nil
              exact AllReady.nil
            refine AllReady.cons rfl (fun K hK => ?_) ?_
            · go_simp
              refine hK _ _ ?_
              clear hK K
              refine wpAny_ready (rs := [2]) (by kernel_rfl) (by simp) ?_
              refine AllReady.cons rfl (fun K hK => ?_) ?_
              · go_simp
                refine hK _ _ ?_
                clear hK K
                refine wpAny_ready (rs := [3]) (by kernel_rfl) (by simp) ?_
                refine AllReady.cons rfl (fun K hK => ?_) ?_
                · go_simp
                  go_wp2_with (go_at_call 92; (with_reducible first | (refine (NA.out _).mono ?_) | (refine (NB.out _).mono ?_)); rintro e w' ⟨rfl, hb⟩; (have hk := R7k.mk (R7.step hb (by (with_reducible repeat (first | exact R7k.out (by assumption) | apply R7.drew | apply R7.alloc | refine R7.store _ _ (Zn.ne (by assumption)) ?_))))); exact ⟨rfl, rfl, hk.out.r.has.1⟩)
                exact AllReady.nil
              exact AllReady.nil
            exact AllReady.nil
          refine AllReady.cons rfl (fun K hK => ?_) ?_
          · go_simp
            refine hK _ _ ?_
            clear hK K
            refine wpAny_ready (rs := [1, 5]) (by kernel_rfl) (by simp) ?_
            refine AllReady.cons rfl (fun K hK => ?_) ?_
            · go_simp
              go_wp2_with (go_at_call 92; (with_reducible first | (refine (NA.out _).mono ?_) | (refine (NB.out _).mono ?_)); rintro e w' ⟨rfl, hb⟩; (have hk := R7k.mk (R7.step hb (by (with_reducible repeat (first | exact R7k.out (by assumption) | apply R7.drew | apply R7.alloc | refine R7.store _ _ (Zn.ne (by assumption)) ?_))))); (have hgl := hk.out.zg.lt); (have hkl := hk.out.zk.lt); (obtain ⟨_, _, _, _, _⟩ := hk.out.all))
              try (refine hK _ _ ?_; clear hK K)
              refine wpAny_ready (rs := [3, 5]) (by kernel_rfl) (by simp) ?_
              refine AllReady.cons rfl (fun K hK => ?_) ?_
              · go_simp
                go_wp2_with (go_at_call 92; (with_reducible first | (refine (NA.out _).mono ?_) | (refine (NB.out _).mono ?_)); rintro e w' ⟨rfl, hb⟩; (have hk := R7k.mk (R7.step hb (by (with_reducible repeat (first | exact R7k.out (by assumption) | apply R7.drew | apply R7.alloc | refine R7.store _ _ (Zn.ne (by assumption)) ?_))))); exact ⟨rfl, rfl, hk.out.r.has.1⟩)
              refine AllReady.cons rfl (fun K hK => ?_) ?_
              · go_simp
                refine hK _ _ ?_
                clear hK K
                refine wpAny_ready (rs := [3]) (by kernel_rfl) (by simp) ?_
                refine AllReady.cons rfl (fun K hK => ?_) ?_
                · go_simp
                  go_wp2_with (go_at_call 92; (with_reducible first | (refine (NA.out _).mono ?_) | (refine (NB.out _).mono ?_)); rintro e w' ⟨rfl, hb⟩; (have hk := R7k.mk (R7.step hb (by (with_reducible repeat (first | exact R7k.out (by assumption) | apply R7.drew | apply R7.alloc | refine R7.store _ _ (Zn.ne (by assumption)) ?_))))); exact ⟨rfl, rfl, hk.out.r.has.1⟩)
                exact AllReady.nil
              exact AllReady.nil
            refine AllReady.cons rfl (fun K hK => ?_) ?_
            · go_simp
              refine hK _ _ ?_
              clear hK K
              refine wpAny_ready (rs := [1]) (by kernel_rfl) (by simp) ?_
              refine AllReady.cons rfl (fun K hK => ?_) ?_
              · go_simp
                go_wp2_with (go_at_call 92; (with_reducible first | (refine (NA.out _).mono ?_) | (refine (NB.out _).mono ?_)); rintro e w' ⟨rfl, hb⟩; (have hk := R7k.mk (R7.step hb (by (with_reducible repeat (first | exact R7k.out (by assumption) | apply R7.drew | apply R7.alloc | refine R7.store _ _ (Zn.ne (by assumption)) ?_))))); (have hgl := hk.out.zg.lt); (have hkl := hk.out.zk.lt); (obtain ⟨_, _, _, _, _⟩ := hk.out.all))
                try (refine hK _ _ ?_; clear hK K)
                refine wpAny_ready (rs := [3]) (by kernel_rfl) (by simp) ?_
                refine AllReady.cons rfl (fun K hK => ?_) ?_
                · go_simp
                  go_wp2_with (go_at_call 92; (with_reducible first | (refine (NA.out _).mono ?_) | (refine (NB.out _).mono ?_)); rintro e w' ⟨rfl, hb⟩; (have hk := R7k.mk (R7.step hb (by (with_reducible repeat (first | exact R7k.out (by assumption) | apply R7.drew | apply R7.alloc | refine R7.store _ _ (Zn.ne (by assumption)) ?_))))); exact ⟨rfl, rfl, hk.out.r.has.1⟩)
                exact AllReady.nil
              exact AllReady.nil
            exact AllReady.nil
          refine AllReady.cons rfl (fun K hK => ?_) ?_
          · go_simp
            refine hK _ _ ?_
            clear hK K
            refine wpAny_ready (rs := [1, 2]) (by kernel_rfl) (by simp) ?_
            refine AllReady.cons rfl (fun K hK => ?_) ?_
            · go_simp
              go_wp2_with (go_at_call 92; (with_reducible first | (refine (NA.out _).mono ?_) | (refine (NB.out _).mono ?_)); rintro e w' ⟨rfl, hb⟩; (have hk := R7k.mk (R7.step hb (by (with_reducible repeat (first | exact R7k.out (by assumption) | apply R7.drew | apply R7.alloc | refine R7.store _ _ (Zn.ne (by assumption)) ?_))))); (have hgl := hk.out.zg.lt); (have hkl := hk.out.zk.lt); (obtain ⟨_, _, _, _, _⟩ := hk.out.all))
              try (refine hK _ _ ?_; clear hK K)
              refine wpAny_ready (rs := [2]) (by kernel_rfl) (by simp) ?_
              refine AllReady.cons rfl (fun K hK => ?_) ?_
              · go_simp
                refine hK _ _ ?_
                clear hK K
                refine wpAny_ready (rs := [3]) (by kernel_rfl) (by simp) ?_
                refine AllReady.cons rfl (fun K hK => ?_) ?_
                · go_simp
                  go_wp2_with (go_at_call 92; (with_reducible first | (refine (NA.out _).mono ?_) | (refine (NB.out _).mono ?_)); rintro e w' ⟨rfl, hb⟩; (have hk := R7k.mk (R7.step hb (by (with_reducible repeat (first | exact R7k.out (by assumption) | apply R7.drew | apply R7.alloc | refine R7.store _ _ (Zn.ne (by assumption)) ?_))))); exact ⟨rfl, rfl, hk.out.r.has.1⟩)
                exact AllReady.nil
              exact AllReady.nil
            refine AllReady.cons rfl (fun K hK => ?_) ?_
            · go_simp
              refine hK _ _ ?_
              clear hK K
              refine wpAny_ready (rs := [1]) (by kernel_rfl) (by simp) ?_
              refine AllReady.cons rfl (fun K hK => ?_) ?_
              · go_simp
                go_wp2_with (go_at_call 92; (with_reducible first | (refine (NA.out _).mono ?_) | (refine (NB.out _).mono ?_)); rintro e w' ⟨rfl, hb⟩; (have hk := R7k.mk (R7.step hb (by (with_reducible repeat (first | exact R7k.out (by assumption) | apply R7.drew | apply R7.alloc | refine R7.store _ _ (Zn.ne (by assumption)) ?_))))); (have hgl := hk.out.zg.lt); (have hkl := hk.out.zk.lt); (obtain ⟨_, _, _, _, _⟩ := hk.out.all))
                try (refine hK _ _ ?_; clear hK K)
                refine wpAny_ready (rs := [3]) (by kernel_rfl) (by simp) ?_
                refine AllReady.cons rfl (fun K hK => ?_) ?_
                · go_simp
                  go_wp2_with (go_at_call 92; (with_reducible first | (refine (NA.out _).mono ?_) | (refine (NB.out _).mono ?_)); rintro e w' ⟨rfl, hb⟩; (have hk := R7k.mk (R7.step hb (by (with_reducible repeat (first | exact R7k.out (by assumption) | apply R7.drew | apply R7.alloc | refine R7.store _ _ (Zn.ne (by assumption)) ?_))))); exact ⟨rfl, rfl, hk.out.r.has.1⟩)
                exact AllReady.nil
              exact AllReady.nil
            exact AllReady.nil
          exact AllReady.nil
        refine AllReady.cons rfl (fun K hK => ?_) ?_
        · go_simp
          refine hK _ _ ?_
          clear hK K
          refine wpAny_ready (rs := [0, 5]) (by kernel_rfl) (by simp) ?_
          refine AllReady.cons rfl (fun K hK => ?_) ?_
          · go_simp
            refine hK _ _ ?_
            clear hK K
            refine wpAny_ready (rs := [1, 5]) (by kernel_rfl) (by simp) ?_
            refine AllReady.cons rfl (fun K hK => ?_) ?_
            · go_simp
              go_wp2_with (go_at_call 92; (with_reducible first | (refine (NA.out _).mono ?_) | (refine (NB.out _).mono ?_)); rintro e w' ⟨rfl, hb⟩; (have hk := R7k.mk (R7.step hb (by (with_reducible repeat (first | exact R7k.out (by assumption) | apply R7.drew | apply R7.alloc | refine R7.store _ _ (Zn.ne (by assumption)) ?_))))); (have hgl := hk.out.zg.lt); (have hkl := hk.out.zk.lt); (obtain ⟨_, _, _, _, _⟩ := hk.out.all))
              try (refine hK _ _ ?_; clear hK K)
              refine wpAny_ready (rs := [3, 5]) (by kernel_rfl) (by simp) ?_
              refine AllReady.cons rfl (fun K hK => ?_) ?_
              · go_simp
                go_wp2_with (go_at_call 92; (with_reducible first | (refine (NA.out _).mono ?_) | (refine (NB.out _).mono ?_)); rintro e w' ⟨rfl, hb⟩; (have hk := R7k.mk (R7.step hb (by (with_reducible repeat (first | exact R7k.out (by assumption) | apply R7.drew | apply R7.alloc | refine R7.store _ _ (Zn.ne (by assumption)) ?_))))); exact ⟨rfl, rfl, hk.out.r.has.1⟩)
              refine AllReady.cons rfl (fun K hK => ?_) ?_
              · go_simp
                refine hK _ _ ?_
                clear hK K
                refine wpAny_ready (rs := [3]) (by kernel_rfl) (by simp) ?_
                refine AllReady.cons rfl (fun K hK => ?_) ?_
                · go_simp
                  go_wp2_with (go_at_call 92; (with_reducible first | (refine (NA.out _).mono ?_) | (refine (NB.out _).mono ?_)); rintro e w' ⟨rfl, hb⟩; (have hk := R7k.mk (R7.step hb (by (with_reducible repeat (first | exact R7k.out (by assumption) | apply R7.drew | apply R7.alloc | refine R7.store _ _ (Zn.ne (by assumption)) ?_))))); exact ⟨rfl, rfl, hk.out.r.has.1⟩)
                exact AllReady.nil
              exact AllReady.nil
            refine AllReady.cons rfl (fun K hK => ?_) ?_
            · go_simp
              refine hK _ _ ?_
              clear hK K
              refine wpAny_ready (rs := [1]) (by kernel_rfl) (by simp) ?_
              refine AllReady.cons rfl (fun K hK => ?_) ?_
              · go_simp
                go_wp2_with (go_at_call 92; (with_reducible first | (refine (NA.out _).mono ?_) | (refine (NB.out _).mono ?_)); rintro e w' ⟨rfl, hb⟩; (have hk := R7k.mk (R7.step hb (by (with_reducible repeat (first | exact R7k.out (by assumption) | apply R7.drew | apply R7.alloc | refine R7.store _ _ (Zn.ne (by assumption)) ?_))))); (have hgl := hk.out.zg.lt); (have hkl := hk.out.zk.lt); (obtain ⟨_, _, _, _, _⟩ := hk.out.all))
                try (refine hK _ _ ?_; clear hK K)
                refine wpAny_ready (rs := [3]) (by kernel_rfl) (by simp) ?_
                refine AllReady.cons rfl (fun K hK => ?_) ?_
                · go_simp
                  go_wp2_with (go_at_call 92; (with_reducible first | (refine (NA.out _).mono ?_) | (refine (NB.out _).mono ?_)); rintro e w' ⟨rfl, hb⟩; (have hk := R7k.mk (R7.step hb (by (with_reducible repeat (first | exact R7k.out (by assumption) | apply R7.drew | apply R7.alloc | refine R7.store _ _ (Zn.ne (by assumption)) ?_))))); exact ⟨rfl, rfl, hk.out.r.has.1⟩)
                exact AllReady.nil
              exact AllReady.nil
            exact AllReady.nil
          refine AllReady.cons rfl (fun K hK => ?_) ?_
          · go_simp
            refine hK _ _ ?_
            clear hK K
            refine wpAny_ready (rs := [0]) (by kernel_rfl) (by simp) ?_
            refine AllReady.cons rfl (fun K hK => ?_) ?_
            · go_simp
              refine hK _ _ ?_
              clear hK K
              refine wpAny_ready (rs := [1]) (by kernel_rfl) (by simp) ?_
              refine AllReady.cons rfl (fun K hK => ?_) ?_
              · go_simp
                go_wp2_with (go_at_call 92; (with_reducible first | (refine (NA.out _).mono ?_) | (refine (NB.out _).mono ?_)); rintro e w' ⟨rfl, hb⟩; (have hk := R7k.mk (R7.step hb (by (with_reducible repeat (first | exact R7k.out (by assumption) | apply R7.drew | apply R7.alloc | refine R7.store _ _ (Zn.ne (by assumption)) ?_))))); (have hgl := hk.out.zg.lt); (have hkl := hk.out.zk.lt); (obtain ⟨_, _, _, _, _⟩ := hk.out.all))
                try (refine hK _ _ ?_; clear hK K)
                refine wpAny_ready (rs := [3]) (by kernel_rfl) (by simp) ?_
                refine AllReady.cons rfl (fun K hK => ?_) ?_
                · go_simp
                  go_wp2_with (go_at_call 92; (with_reducible first | (refine (NA.out _).mono ?_) | (refine (NB.out _).mono ?_)); rintro e w' ⟨rfl, hb⟩; (have hk := R7k.mk (R7.step hb (by (with_reducible repeat (first | exact R7k.out (by assumption) | apply R7.drew | apply R7.alloc | refine R7.store _ _ (Zn.ne (by assumption)) ?_))))); exact ⟨rfl, rfl, hk.out.r.has.1⟩)
                exact AllReady.nil
              exact AllReady.nil
            exact AllReady.nil
          exact AllReady.nil
        refine AllReady.cons rfl (fun K hK => ?_) ?_
        · go_simp
          refine hK _ _ ?_
          clear hK K
          refine wpAny_ready (rs := [0, 2]) (by kernel_rfl) (by simp) ?_
          refine AllReady.cons rfl (fun K hK => ?_) ?_
          · go_simp
            refine hK _ _ ?_
            clear hK K
            refine wpAny_ready (rs := [1, 2]) (by kernel_rfl) (by simp) ?_
            refine AllReady.cons rfl (fun K hK => ?_) ?_
            · go_simp
              go_wp2_with (go_at_call 92; (with_reducible first | (refine (NA.out _).mono ?_) | (refine (NB.out _).mono ?_)); rintro e w' ⟨rfl, hb⟩; (have hk := R7k.mk (R7.step hb (by (with_reducible repeat (first | exact R7k.out (by assumption) | apply R7.drew | apply R7.alloc | refine R7.store _ _ (Zn.ne (by assumption)) ?_))))); (have hgl := hk.out.zg.lt); (have hkl := hk.out.zk.lt); (obtain ⟨_, _, _, _, _⟩ := hk.out.all))
              try (refine hK _ _ ?_; clear hK K)
              refine wpAny_ready (rs := [2]) (by kernel_rfl) (by simp) ?_
              refine AllReady.cons rfl (fun K hK => ?_) ?_
              · go_simp
                refine hK _ _ ?_
                clear hK K
                refine wpAny_ready (rs := [3]) (by kernel_rfl) (by simp) ?_
                refine AllReady.cons rfl (fun K hK => ?_) ?_
                · go_simp
                  go_wp2_with (go_at_call 92; (with_reducible first | (refine (NA.out _).mono ?_) | (refine (NB.out _).mono ?_)); rintro e w' ⟨rfl, hb⟩; (have hk := R7k.mk (R7.step hb (by (with_reducible repeat (first | exact R7k.out (by assumption) | apply R7.drew | apply R7.alloc | refine R7.store _ _ (Zn.ne (by assumption)) ?_))))); exact ⟨rfl, rfl, hk.out.r.has.1⟩)
                exact AllReady.nil
              exact AllReady.nil
            refine AllReady.cons rfl (fun K hK => ?_) ?_
            · go_simp
              refine hK _ _ ?_
              clear hK K
              refine wpAny_ready (rs := [1]) (by kernel_rfl) (by simp) ?_
              refine AllReady.cons rfl (fun K hK => ?_) ?_
              · go_simp
                go_wp2_with (go_at_call 92; (with_reducible first | (refine (NA.out _).mono ?_) | (refine (NB.out _).mono ?_)); rintro e w' ⟨rfl, hb⟩; (have hk := R7k.mk (R7.step hb (by (with_reducible repeat (first | exact R7k.out (by assumption) | apply R7.drew | apply R7.alloc | refine R7.store _ _ (Zn.ne (by assumption)) ?_))))); (have hgl := hk.out.zg.lt); (have hkl := hk.out.zk.lt); (obtain ⟨_, _, _, _, _⟩ := hk.out.all))
                try (refine hK _ _ ?_; clear hK K)
                refine wpAny_ready (rs := [3]) (by kernel_rfl) (by simp) ?_
                refine AllReady.cons rfl (fun K hK => ?_) ?_
                · go_simp
                  go_wp2_with (go_at_call 92; (with_reducible first | (refine (NA.out _).mono ?_) | (refine (NB.out _).mono ?_)); rintro e w' ⟨rfl, hb⟩; (have hk := R7k.mk (R7.step hb (by (with_reducible repeat (first | exact R7k.out (by assumption) | apply R7.drew | apply R7.alloc | refine R7.store _ _ (Zn.ne (by assumption)) ?_))))); exact ⟨rfl, rfl, hk.out.r.has.1⟩)
                exact AllReady.nil
              exact AllReady.nil
            exact AllReady.nil
          refine AllReady.cons rfl (fun K hK => ?_) ?_
          · go_simp
            refine hK _ _ ?_
            clear hK K
            refine wpAny_ready (rs := [0]) (by kernel_rfl) (by simp) ?_
            refine AllReady.cons rfl (fun K hK => ?_) ?_
            · go_simp
              refine hK _ _ ?_
              clear hK K
              refine wpAny_ready (rs := [1]) (by kernel_rfl) (by simp) ?_
              refine AllReady.cons rfl (fun K hK => ?_) ?_
              · go_simp
                go_wp2_with (go_at_call 92; (with_reducible first | (refine (NA.out _).mono ?_) | (refine (NB.out _).mono ?_)); rintro e w' ⟨rfl, hb⟩; (have hk := R7k.mk (R7.step hb (by (with_reducible repeat (first | exact R7k.out (by assumption) | apply R7.drew | apply R7.alloc | refine R7.store _ _ (Zn.ne (by assumption)) ?_))))); (have hgl := hk.out.zg.lt); (have hkl := hk.out.zk.lt); (obtain ⟨_, _, _, _, _⟩ := hk.out.all))
                try (refine hK _ _ ?_; clear hK K)
                refine wpAny_ready (rs := [3]) (by kernel_rfl) (by simp) ?_
                refine AllReady.cons rfl (fun K hK => ?_) ?_
                · go_simp
                  go_wp2_with (go_at_call 92; (with_reducible first | (refine (NA.out _).mono ?_) | (refine (NB.out _).mono ?_)); rintro e w' ⟨rfl, hb⟩; (have hk := R7k.mk (R7.step hb (by (with_reducible repeat (first | exact R7k.out (by assumption) | apply R7.drew | apply R7.alloc | refine R7.store _ _ (Zn.ne (by assumption)) ?_))))); exact ⟨rfl, rfl, hk.out.r.has.1⟩)
                exact AllReady.nil
              exact AllReady.nil
            exact AllReady.nil
          exact AllReady.nil
        exact AllReady.nil
      · unfold narE at NA NB
        have hx := HEA.out x rfl
        go_cut [8] from 28 to 32 (fun v8 wx => ∃ h : Nat, v8 = .pointer (some ⟨h, 0, none⟩) ∧ R3 w n1 n2 m1 m2 wx ∧ Zb w wx h (.int .i64 x) (.int .i64 y) 42)
        case first =>
          go_region_held3 (fun V => R7 w n1 n2 m1 m2 g k c1 c2 d1 d2 V ∧ V.cell? ⟨g, 0, none⟩ = some (.int .u64 c1) ∧ V.cell? ⟨g, 1, none⟩ = some (.int .u64 c2) ∧ V.cell? ⟨k, 0, none⟩ = some (.int .u64 d1) ∧ V.cell? ⟨k, 1, none⟩ = some (.int .u64 d2))
            ((refine R7.all ?_; (with_reducible repeat (first | exact R7k.out (by assumption) | apply R7.drew | apply R7.alloc | refine R7.store _ _ (Zn.ne (by assumption)) ?_))))
            (first
              | (go_at_call 92; (with_reducible first | (refine (NA.out _).mono ?_) | (refine (NB.out _).mono ?_)); rintro e w' ⟨rfl, hb⟩; (have hk := R7k.mk (R7.step hb (by (with_reducible repeat (first | exact R7k.out (by assumption) | apply R7.drew | apply R7.alloc | refine R7.store _ _ (Zn.ne (by assumption)) ?_))))); (first
                  | (have z := (Zn.step hb (by with_reducible repeat (first | assumption | apply Zn.drew | exact Zn.new _ _ (by (with_reducible repeat (first | exact R7k.out (by assumption) | apply R7.drew | apply R7.alloc | refine R7.store _ _ (Zn.ne (by assumption)) ?_)))))).all; obtain ⟨_, _, _, _, _⟩ := z)
                  | skip)))
          all_goals go_wp2
          all_goals go_meet
          all_goals (with_reducible first
            | exact ⟨_, rfl, (R7.alloc _ (R7k.out (by assumption))).r, Zb.new _ _ _ (R7k.out (by assumption)).r.lt⟩
            | exact ⟨_, rfl, (R7.store _ _ (Zn.ne (by assumption)) (R7k.out (by assumption))).r, (Zn.set _ _ (by assumption)).z⟩)
        case rest =>
          obtain ⟨h, rfl, hR, hh⟩ := hcut
          clear h7 hk7 NA NB
          have hk8 := R8k.mk ⟨hR, hh⟩
          have h8 := hk8.out.all
          clear hR hh
          cases s <;> cases t
          all_goals go_upto_region 6 with fail
          all_goals go_region_held3 (fun V => R8 w n1 n2 m1 m2 h x y V ∧ V.cell? ⟨w.heap.size, 0, none⟩ = some (.int .u64 n1) ∧ V.cell? ⟨w.heap.size, 1, none⟩ = some (.int .u64 n2) ∧ V.cell? ⟨w.heap.size + 1, 0, none⟩ = some (.int .u64 m1) ∧ V.cell? ⟨w.heap.size + 1, 1, none⟩ = some (.int .u64 m2))
            ((refine R8.all ?_; (with_reducible repeat (first | exact R8k.out (by assumption) | apply R8.drew))))
            (first
              | (go_at_call 93; (with_reducible first | (refine (SA.out _).mono ?_) | (refine (SB.out _).mono ?_)); rintro e w' ⟨rfl, hb⟩; (have hk := R8k.mk (R8.step hb (by (with_reducible repeat (first | exact R8k.out (by assumption) | apply R8.drew)))))))
          all_goals (
            obtain ⟨f0, f1⟩ := frozen2 hk.out.r.rowC
            obtain ⟨c0, c1⟩ := cells2 hk.out.r.rowC
            obtain ⟨_, z1, z2, z3, z4, z5⟩ := hk.out.z.all
            have hbg := hk.out.z.big
            have HK := Lib.hid hk
            go_wp2)
          all_goals first
            | (have hC := heap_setCell_same _ _ 1 _ _ (.int .i64 y) (heap_setCell_same _ _ 0 _ _ (.int .i64 x) HK.out.out.r.rowC)
               refine bodyPost_ret (results_cell_row rfl _ _ (w.heap.size + 1 + 1) 42 _ (0, 0) _ rfl hC Try.underlying42 rfl info23) rfl ?_
               exact ⟨rfl, (HK.out.out.r.has.1.setCell (by simp; omega) _).setCell (by simp; omega) _⟩)
            | (have hC := heap_setCell_same _ _ 1 _ _ (.int .i64 y) (heap_setCell_same _ _ 0 _ _ (.int .i64 (-x)) ((heap_setCell_other _ ⟨h, 0, none⟩ (w.heap.size + 1 + 1) (.int .i64 (-x)) (by simp; omega)).trans HK.out.out.r.rowC))
               refine bodyPost_ret (results_cell_row rfl _ _ (w.heap.size + 1 + 1) 42 _ (0, 0) _ rfl hC Try.underlying42 rfl info23) rfl ?_
               exact ⟨rfl, ((HK.out.out.r.has.1.setCell (by simp; omega) _).setCell (by simp; omega) _).setCell (by simp; omega) _⟩)
end Go.Proofs.Ytffnopdpndpngaa.Pro
