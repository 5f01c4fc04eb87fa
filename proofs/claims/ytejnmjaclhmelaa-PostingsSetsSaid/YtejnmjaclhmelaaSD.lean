/- Layer 8: the iterator's walk. -/
import Derived.Test.YtejnmjaclhmelaaSC
set_option linter.unusedVariables false
set_option linter.unusedSimpArgs false
namespace Go.Proofs.Ytejnmjaclhmelaa.Po
open Go.RowKit Go.Shelf

attribute [local go_sem] Oper.semAt_some

set_option maxRecDepth 100000 in
set_option maxHeartbeats 4000000 in
theorem sides1_in (dp : Nat) (hn : 1 ≤ dp) (l n0 B bx bz : Nat) (a1 a2 : Option Addr) (c1 c2 : Nat) (xs ys : List Int)
    (J Jx : List NH → World → Prop) (hJ : AbidesFrom B J)
    (hY : ∀ pre x W, J pre W → pre.length < (sideL xs ys).length → YieldAt Fence.wide (dp - 1) Try.prog l (encS x) W fun e W' =>
      (e = .returned (.bool true) ∧ J (pre ++ [x]) W' ∧ Below n0 W W') ∨ (e = .returned (.bool false) ∧ Jx (pre ++ [x]) W'))
    (W : World) (hbx : W.cell? ⟨bx, 0, none⟩ = some (.slice a1 xs.length c1)) (hbz : W.cell? ⟨bz, 0, none⟩ = some (.slice a2 ys.length c2))
    (h0 : SideI n0 B J (sideL xs ys) a1 a2 c1 c2 xs ys [] (xs.length + ys.length) W) :
    CallsIn Fence.wide dp Try.prog 67 #[.func (.yield l) #[] #[], .pointer (some ⟨bx, 0, none⟩), .pointer (some ⟨bz, 0, none⟩)] W fun e W' => (∃ v, e = .returned v) ∧
      ((∃ zs, zs = sideL xs ys ∧ J zs W') ∨ (∃ pre, True ∧ Jx pre W')) := by
  have S0 := Lib.hid h0
  have HJ := Lib.hid hJ
  have HY := Lib.hid hY
  clear h0 hJ hY
  refine callsIn_of_wp Try.func67 rfl trivial ?_ rfl
  simp only [Try.ntmps67, List.size_toArray, List.length_cons, List.length_nil, Nat.reduceAdd, Nat.reduceSub, Array.replicate_succ, Array.replicate_zero, List.push_toArray, List.append_toArray, List.nil_append, List.cons_append]
  gi_wp2
  gi_quiet (fail)
  clear hbx hbz
  gi_wp2
  gi_loopw [4, 5] (fun va vb wr => ∃ (A C : Option Addr) (c d : Nat) (la lb : List Int) (pre : List NH) (m : Nat), va = .slice A la.length c ∧ vb = .slice C lb.length d ∧ Hid (SideI n0 B J (sideL xs ys) A C c d la lb pre m wr))
    (fun va vb _ => slN va + slN vb)
  case atStart => exact ⟨a1, a2, c1, c2, xs, ys, [], _, rfl, rfl, Lib.hid (S0.out.drewN HJ.out _)⟩
  case round =>
    clear S0
    obtain ⟨A, C, c, d, la, lb, pre, m, rfl, rfl, HS⟩ := hrel
    by_cases h0 : 0 < la.length ∨ 0 < lb.length
    · have HL := Lib.hid (side_lt HS.out.va HS.out.vb HS.out.le HS.out.eq h0)
      have HG := Lib.hid (side_gt HS.out.va HS.out.vb HS.out.le HS.out.eq h0)
      have HE := Lib.hid (side_eq HS.out.va HS.out.vb HS.out.le HS.out.eq h0)
      have HC := Lib.hid HS.out.first
      rcases Int.lt_trichotomy (hdI la) (hdI lb) with hq | hq | hq
      · obtain ⟨hpa, hpl, m', hm', hfull⟩ := HL.out hq
        obtain ⟨A', e1, hs1, hi1⟩ := cut1 HS.out.x hpa
        have HA1 := Lib.hid (HJ.out _ _ _ none HS.out.j (World.grownBy_alloc wr (.cells #[.bool true, .bool false] 49) none) (fun r e => by cases e))
        obtain ⟨fn, tmps, assign, body, hy, hR⟩ := HY.out pre (hdI la, true, false) (wr.alloc (.cells #[.bool true, .bool false] 49)) HA1.out hpl
        dsimp only [encS] at hy
        have HR := Lib.hid hR
        have KEY : Hid (∀ V, J (pre ++ [(hdI la, true, false)]) V → Below n0 (wr.alloc (.cells #[.bool true, .bool false] 49)) V → SideI n0 B J (sideL xs ys) A' C e1 d la.tail lb (pre ++ [(hdI la, true, false)]) m' V) := Lib.hid fun V hj hb => by
          have hb2 : Below n0 wr V := ((Below.refl n0 wr).alloc HS.out.n _).trans hb
          exact ⟨(hi1).below hb2, (HS.out.y).below hb2, HS.out.va.tl, HS.out.vb, hm', hfull, hj, Nat.le_trans HS.out.n hb2.size⟩
        have g1 : decide (0 < la.length) = true := decide_eq_true hpa
        have g3 : decide ((0 : Int) < (la.length : Int)) = true := decide_eq_true (by omega)
        have HtA := Lib.hid (show la.tail.length + 1 = la.length by rw [List.length_tail]; omega)
        clear hi1
        clear HS HL HG HE HY HA1 h0 hfull hm' hpl hR
        generalize hLA : la.tail = la' at *
        clear hLA
        generalize hdI la = x at *
        generalize hdI lb = y at *
        have q1 : x ≤ y := by omega
        have q2 : ¬ y ≤ x := by omega
        have q3 : ¬ y < x := by omega
        have q4 : decide (y ≤ x) = false := decide_eq_false q2
        have q5 : decide (x ≤ y) = true := decide_eq_true q1
        gi_wp2_with fail
        refine ⟨trivial, ?_⟩
        refine (callsIn_wide.2 HC.out.1).mono ?_
        rintro e w' ⟨rfl, rfl⟩
        gi_wp2_with fail
        refine ⟨trivial, ?_⟩
        refine (callsIn_wide.2 HC.out.2).mono ?_
        rintro e w' ⟨rfl, rfl⟩
        clear HC
        gi_wp2
        refine HR.out.mono ?_
        rintro e W5 (⟨rfl, hj, hk⟩ | ⟨rfl, hx⟩)
        · have T3 := Lib.hid (KEY.out W5 hj hk)
          clear hj hk KEY HR hy
          gi_wp2
          go_roundw
          case rel => exact ⟨_, _, _, _, la', lb, _, m', rfl, rfl, T3⟩
          case measure =>
            try simp [slN]
            have := HtA.out
            omega
        · gi_wp2
          refine bodyPost_ret (results_none rfl _ _ _) rfl ?_
          exact ⟨⟨_, rfl⟩, .inr ⟨_, trivial, hx⟩⟩
      · obtain ⟨hpa, hpb, hpl, m', hm', hfull⟩ := HE.out hq
        obtain ⟨A', e1, hs1, hi1⟩ := cut1 HS.out.x hpa
        obtain ⟨B', e2, hs2, hi2⟩ := cut1 HS.out.y hpb
        have HA1 := Lib.hid (HJ.out _ _ _ none HS.out.j (World.grownBy_alloc wr (.cells #[.bool true, .bool true] 49) none) (fun r e => by cases e))
        obtain ⟨fn, tmps, assign, body, hy, hR⟩ := HY.out pre (hdI la, true, true) (wr.alloc (.cells #[.bool true, .bool true] 49)) HA1.out hpl
        dsimp only [encS] at hy
        have HR := Lib.hid hR
        have KEY : Hid (∀ V, J (pre ++ [(hdI la, true, true)]) V → Below n0 (wr.alloc (.cells #[.bool true, .bool true] 49)) V → SideI n0 B J (sideL xs ys) A' B' e1 e2 la.tail lb.tail (pre ++ [(hdI la, true, true)]) m' V) := Lib.hid fun V hj hb => by
          have hb2 : Below n0 wr V := ((Below.refl n0 wr).alloc HS.out.n _).trans hb
          exact ⟨(hi1).below hb2, (hi2).below hb2, HS.out.va.tl, HS.out.vb.tl, hm', hfull, hj, Nat.le_trans HS.out.n hb2.size⟩
        have g1 : decide (0 < la.length) = true := decide_eq_true hpa
        have g3 : decide ((0 : Int) < (la.length : Int)) = true := decide_eq_true (by omega)
        have HtA := Lib.hid (show la.tail.length + 1 = la.length by rw [List.length_tail]; omega)
        clear hi1
        have HtB := Lib.hid (show lb.tail.length + 1 = lb.length by rw [List.length_tail]; omega)
        clear hi2
        clear HS HL HG HE HY HA1 h0 hfull hm' hpl hR
        generalize hLA : la.tail = la' at *
        generalize hLB : lb.tail = lb' at *
        clear hLA
        clear hLB
        rw [← hq] at HC
        clear hq
        generalize hdI la = x at *
        gi_wp2_with fail
        refine ⟨trivial, ?_⟩
        refine (callsIn_wide.2 HC.out.1).mono ?_
        rintro e w' ⟨rfl, rfl⟩
        gi_wp2_with fail
        refine ⟨trivial, ?_⟩
        refine (callsIn_wide.2 HC.out.2).mono ?_
        rintro e w' ⟨rfl, rfl⟩
        clear HC
        gi_wp2
        refine HR.out.mono ?_
        rintro e W5 (⟨rfl, hj, hk⟩ | ⟨rfl, hx⟩)
        · have T3 := Lib.hid (KEY.out W5 hj hk)
          clear hj hk KEY HR hy
          gi_wp2
          go_roundw
          case rel => exact ⟨_, _, _, _, la', lb', _, m', rfl, rfl, T3⟩
          case measure =>
            try simp [slN]
            have := And.intro HtA.out HtB.out
            omega
        · gi_wp2
          refine bodyPost_ret (results_none rfl _ _ _) rfl ?_
          exact ⟨⟨_, rfl⟩, .inr ⟨_, trivial, hx⟩⟩
      · by_cases hA : 0 < la.length
        · obtain ⟨hpb, hpl, m', hm', hfull⟩ := HG.out hq
          obtain ⟨B', e2, hs2, hi2⟩ := cut1 HS.out.y hpb
          have HA1 := Lib.hid (HJ.out _ _ _ none HS.out.j (World.grownBy_alloc wr (.cells #[.bool false, .bool true] 49) none) (fun r e => by cases e))
          obtain ⟨fn, tmps, assign, body, hy, hR⟩ := HY.out pre (hdI lb, false, true) (wr.alloc (.cells #[.bool false, .bool true] 49)) HA1.out hpl
          dsimp only [encS] at hy
          have HR := Lib.hid hR
          have KEY : Hid (∀ V, J (pre ++ [(hdI lb, false, true)]) V → Below n0 (wr.alloc (.cells #[.bool false, .bool true] 49)) V → SideI n0 B J (sideL xs ys) A B' c e2 la lb.tail (pre ++ [(hdI lb, false, true)]) m' V) := Lib.hid fun V hj hb => by
            have hb2 : Below n0 wr V := ((Below.refl n0 wr).alloc HS.out.n _).trans hb
            exact ⟨(HS.out.x).below hb2, (hi2).below hb2, HS.out.va, HS.out.vb.tl, hm', hfull, hj, Nat.le_trans HS.out.n hb2.size⟩
          have g1 : decide (0 < la.length) = true := decide_eq_true hA
          have g3 : decide ((0 : Int) < (la.length : Int)) = true := decide_eq_true (by omega)
          have g2 : decide (0 < lb.length) = true := decide_eq_true hpb
          have g4 : decide ((0 : Int) < (lb.length : Int)) = true := decide_eq_true (by omega)
          have HtB := Lib.hid (show lb.tail.length + 1 = lb.length by rw [List.length_tail]; omega)
          clear hi2
          clear HS HL HG HE HY HA1 h0 hfull hm' hpl hR
          generalize hLB : lb.tail = lb' at *
          clear hLB
          generalize hdI la = x at *
          generalize hdI lb = y at *
          have q1 : ¬ x ≤ y := by omega
          have q2 : y ≤ x := by omega
          have q3 : ¬ x < y := by omega
          have q4 : decide (x ≤ y) = false := decide_eq_false q1
          have q5 : decide (y ≤ x) = true := decide_eq_true q2
          gi_wp2_with fail
          refine ⟨trivial, ?_⟩
          refine (callsIn_wide.2 HC.out.1).mono ?_
          rintro e w' ⟨rfl, rfl⟩
          gi_wp2_with fail
          refine ⟨trivial, ?_⟩
          refine (callsIn_wide.2 HC.out.2).mono ?_
          rintro e w' ⟨rfl, rfl⟩
          clear HC
          gi_wp2
          refine HR.out.mono ?_
          rintro e W5 (⟨rfl, hj, hk⟩ | ⟨rfl, hx⟩)
          · have T3 := Lib.hid (KEY.out W5 hj hk)
            clear hj hk KEY HR hy
            gi_wp2
            go_roundw
            case rel => exact ⟨_, _, _, _, la, lb', _, m', rfl, rfl, T3⟩
            case measure =>
              try simp [slN]
              have := HtB.out
              omega
          · gi_wp2
            refine bodyPost_ret (results_none rfl _ _ _) rfl ?_
            exact ⟨⟨_, rfl⟩, .inr ⟨_, trivial, hx⟩⟩
        · obtain ⟨hpb, hpl, m', hm', hfull⟩ := HG.out hq
          obtain ⟨B', e2, hs2, hi2⟩ := cut1 HS.out.y hpb
          have HA1 := Lib.hid (HJ.out _ _ _ none HS.out.j (World.grownBy_alloc wr (.cells #[.bool false, .bool true] 49) none) (fun r e => by cases e))
          obtain ⟨fn, tmps, assign, body, hy, hR⟩ := HY.out pre (hdI lb, false, true) (wr.alloc (.cells #[.bool false, .bool true] 49)) HA1.out hpl
          dsimp only [encS] at hy
          have HR := Lib.hid hR
          have KEY : Hid (∀ V, J (pre ++ [(hdI lb, false, true)]) V → Below n0 (wr.alloc (.cells #[.bool false, .bool true] 49)) V → SideI n0 B J (sideL xs ys) A B' c e2 la lb.tail (pre ++ [(hdI lb, false, true)]) m' V) := Lib.hid fun V hj hb => by
            have hb2 : Below n0 wr V := ((Below.refl n0 wr).alloc HS.out.n _).trans hb
            exact ⟨(HS.out.x).below hb2, (hi2).below hb2, HS.out.va, HS.out.vb.tl, hm', hfull, hj, Nat.le_trans HS.out.n hb2.size⟩
          have g1 : decide (0 < la.length) = false := decide_eq_false hA
          have g3 : decide ((0 : Int) < (la.length : Int)) = false := decide_eq_false (by omega)
          have g2 : decide (0 < lb.length) = true := decide_eq_true hpb
          have g4 : decide ((0 : Int) < (lb.length : Int)) = true := decide_eq_true (by omega)
          have HtB := Lib.hid (show lb.tail.length + 1 = lb.length by rw [List.length_tail]; omega)
          clear hi2
          clear HS HL HG HE HY HA1 h0 hfull hm' hpl hR
          generalize hLB : lb.tail = lb' at *
          clear hLB
          generalize hdI la = x at *
          generalize hdI lb = y at *
          have q1 : ¬ x ≤ y := by omega
          have q2 : y ≤ x := by omega
          have q3 : ¬ x < y := by omega
          have q4 : decide (x ≤ y) = false := decide_eq_false q1
          have q5 : decide (y ≤ x) = true := decide_eq_true q2
          gi_wp2_with fail
          refine ⟨trivial, ?_⟩
          refine (callsIn_wide.2 HC.out.1).mono ?_
          rintro e w' ⟨rfl, rfl⟩
          gi_wp2_with fail
          refine ⟨trivial, ?_⟩
          refine (callsIn_wide.2 HC.out.2).mono ?_
          rintro e w' ⟨rfl, rfl⟩
          clear HC
          gi_wp2
          refine HR.out.mono ?_
          rintro e W5 (⟨rfl, hj, hk⟩ | ⟨rfl, hx⟩)
          · have T3 := Lib.hid (KEY.out W5 hj hk)
            clear hj hk KEY HR hy
            gi_wp2
            go_roundw
            case rel => exact ⟨_, _, _, _, la, lb', _, m', rfl, rfl, T3⟩
            case measure =>
              try simp [slN]
              have := HtB.out
              omega
          · gi_wp2
            refine bodyPost_ret (results_none rfl _ _ _) rfl ?_
            exact ⟨⟨_, rfl⟩, .inr ⟨_, trivial, hx⟩⟩
    · have hE := Lib.hid (side_end HS.out.eq (by omega) (by omega))
      have g1 : decide (0 < la.length) = false := decide_eq_false (by omega)
      have g2 : decide (0 < lb.length) = false := decide_eq_false (by omega)
      have g3 : decide ((0 : Int) < (la.length : Int)) = false := decide_eq_false (by omega)
      have g4 : decide ((0 : Int) < (lb.length : Int)) = false := decide_eq_false (by omega)
      clear h0
      have hj := Lib.hid HS.out.j
      gi_wp2
      go_end0
      exact ⟨⟨_, rfl⟩, .inl ⟨_, rfl, by rw [hE.out]; exact hj.out⟩⟩
end Go.Proofs.Ytejnmjaclhmelaa.Po
