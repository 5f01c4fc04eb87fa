/- Layer 12: the law LoghistBounds. -/
import Derived.StillTailTactics
import Derived.Deep.QuietTactic
import Derived.BigQuiet
import Derived.Test.YtffnopdpndpngaaNg
import Derived.Test.YtffnopdpndpngaaNj
set_option maxRecDepth 100000
set_option linter.unusedVariables false
set_option linter.unusedSimpArgs false
namespace Go.Proofs.Ytffnopdpndpngaa.Lh
open Go.RowKit
/-- A quiet walk in one world is a still one. -/
theorem still_of_quiet {P : Program} {ops : Array Oper} {w : World} {Q : Act → Prop} : ∀ {l : List Oper} {a : Act}, wpQuiet P ops (fun x => x = w) Q l a → wpStill P ops w Q l a
  | [], _, h => h
  | o :: rest, a, h => by
    unfold wpQuiet at h
    unfold wpStill
    split
    · rename_i hw
      rw [if_pos hw] at h
      obtain ⟨v, h1, h2⟩ := h
      have h3 := h1 w rfl
      have h4 := still_of_quiet h2
      unfold Oper.quietAt at h3
      unfold Oper.still
      generalize (execOp a.eval o).run P w = r at *
      match r, h3 with
      | .ok (.value u) w', ⟨e1, e2⟩ => exact ⟨e1, by rw [e2]; exact h4⟩
      | .ok .skip w', ⟨e1, e2⟩ => exact ⟨e1, by rw [← e2]; exact h4⟩
      | .ok (.enter f args) w', ⟨e1, hc⟩ => exact ⟨e1, v, hc, h4⟩
    · rename_i hw
      rw [if_neg hw] at h
      exact still_of_quiet h
/-- How many numbers are at most x. -/
def cntV (x : Int) (l : List Int) : Int := V (fun v => if v ≤ x then 1 else 0) l
theorem cntV_snoc (x : Int) (l : List Int) (v : Int) : cntV x (l ++ [v]) = cntV x l + if v ≤ x then 1 else 0 := by
  unfold cntV
  rw [V_append]
  simp [V]
theorem cntV_le (x : Int) : ∀ l : List Int, 0 ≤ cntV x l ∧ cntV x l ≤ l.length
  | [] => by simp [cntV, V]
  | v :: r => by
    have h := cntV_le x r
    unfold cntV at h ⊢
    simp only [V, List.length_cons]
    split <;> omega
/-- What Bounds asks. -/
theorem bounds_facts {p : Int} {l S : List Int} {G : H} (o : Of p l G) (hv : Val l) (hS : l.Perm S) (hs : S.Pairwise fun a b => a ≤ b) (hne : 0 < S.length) (x : Int) :
    G.mn = S[0] ∧ G.mx = S[S.length - 1] ∧ sureH G x ≤ cntV x S ∧ cntV x S ≤ possH G x := by
  have hl : l ≠ [] := by
    intro e
    rw [e] at hS
    rw [← hS.length_eq] at hne
    simp at hne
  obtain ⟨m1, m2⟩ := o.mn hl
  obtain ⟨x1, x2⟩ := o.mx hl
  have g1 := m2 S[0] (hS.mem_iff.2 (List.getElem_mem _))
  have g2 := x2 S[S.length - 1] (hS.mem_iff.2 (List.getElem_mem _))
  obtain ⟨i, hi, ei⟩ := List.getElem_of_mem (hS.mem_iff.1 m1)
  obtain ⟨j, hj, ej⟩ := List.getElem_of_mem (hS.mem_iff.1 x1)
  have h1 : S[0] ≤ S[i] := by
    by_cases e : i = 0
    · subst e; exact Int.le_refl _
    · exact List.pairwise_iff_getElem.1 hs 0 i hne hi (by omega)
  have h2 : S[j] ≤ S[S.length - 1] := by
    by_cases e : j = S.length - 1
    · subst e; exact Int.le_refl _
    · exact List.pairwise_iff_getElem.1 hs j (S.length - 1) hj (by omega) (by omega)
  have h3 := o.numbers hv x
  have h4 : cntV x S = V (fun v => if v ≤ x then 1 else 0) l := (V_perm _ hS).symm
  rw [← h4] at h3
  exact ⟨by omega, by omega, h3.1, h3.2⟩
theorem sort_ex (A : Option Addr) (c : Nat) (l : List Int) (hl : l.length ≤ 100000) : ∃ S : List Int, l.Perm S ∧ S.Pairwise (fun a b => a ≤ b) ∧ ∀ w, LI w w.heap.size A l → Calls Try.prog 36 #[.func (.func 61) #[] #[.pointer (some ⟨w.heap.size, 0, none⟩)]] (w.alloc (.cells #[.slice A l.length c] 46)) fun e w' => ∃ B k, e = .returned (.slice B l.length k) ∧ LI w' w'.heap.size B S ∧ Below w.heap.size w w' := by
  refine ⟨_, (List.mergeSort_perm l (fun x y => decide (x ≤ y))).symm, ?_, fun w h => sortedW_any A c l hl w h⟩
  have h := List.pairwise_mergeSort (le := fun a b : Int => decide (a ≤ b)) (fun a b c h1 h2 => by simp only [decide_eq_true_eq] at *; omega) (fun a b => by simp only [Bool.or_eq_true, decide_eq_true_eq]; omega) l
  exact h.imp fun hh => by simpa using hh
set_option maxHeartbeats 8000000 in
theorem bounds_walk (p : Int) (hp : 0 ≤ p ∧ p ≤ 255) (A : Option Addr) (c : Nat) (l : List Int) (hlen : l.length ≤ 9223372036854775807) (n d : Int) (hn : inI n) (hd : inI d) (x : Int) (w : World) (hA : LI w w.heap.size A l) : Calls Try.prog 8 #[.int .u8 p, .slice A l.length c, .agg #[.int .i64 n, .int .i64 d], .int .i64 x] w fun e w' => e = .returned (.bool true) ∧ Below w.heap.size w w' := by
  have KA := Lib.hid awake_any
  have KF := Lib.hid (fun W h => few_any l A c W h)
  have R1 := Lib.hid (fun W => rank_any n d l.length hn hd W)
  have Ll := Lib.hid hA
  clear hA
  by_cases hf : fewB l = false
  · rw [hf] at KF
    have BB : Hid (Below w.heap.size w w) := Below.refl _ _
    obtain ⟨V0, hV0⟩ : ∃ V, V = w.alloc (.cells #[.int .i64 n, .int .i64 d] 42) := ⟨_, rfl⟩
    have Kr : Hid (RX V0 (w.heap.size) n d) := Lib.hid (by rw [hV0]; exact RX.new _ _ _)
    have hb : Below w.heap.size w V0 := by rw [hV0]; exact (Below.refl _ _).alloc (Nat.le_refl _) _
    have hz0 : V0.heap.size = w.heap.size + 1 := by rw [hV0]; simp only [World.size_alloc]
    have Ll := Lib.hid (Ll.out.up hb)
    have BB := Lib.hid (BB.out.trans (hb.mono BB.out.size))
    clear hb
    have HW : Hid ((w.alloc (.cells #[.int .i64 n, .int .i64 d] 42)) = V0) := Lib.hid (by rw [← hV0])
    clear hV0 hz0
    go_enter Try.func8, Try.ntmps8
    obtain ⟨r0, r1⟩ := Kr.out.box
    have rlt := Kr.out.lt
    go_wp2_with fail
    rw [HW.out]
    with_reducible refine (R1.out _).mono ?_
    clear r0 r1 rlt
    rintro e w1_ ⟨⟨r_, rfl, -⟩, hb⟩
    have Kr := Lib.hid (Kr.out.up hb)
    have Ll := Lib.hid (Ll.out.up hb)
    have BB := Lib.hid (BB.out.trans (hb.mono BB.out.size))
    clear hb
    obtain ⟨r0, r1⟩ := Kr.out.box
    have rlt := Kr.out.lt
    go_wp2_with fail
    with_reducible refine (KF.out _ Ll.out).mono ?_
    clear r0 r1 rlt
    rintro e w2_ ⟨rfl, hb⟩
    have Kr := Lib.hid (Kr.out.up hb)
    have Ll := Lib.hid (Ll.out.up hb)
    have BB := Lib.hid (BB.out.trans (hb.mono BB.out.size))
    clear hb
    obtain ⟨r0, r1⟩ := Kr.out.box
    have rlt := Kr.out.lt
    go_wp2_with fail
    with_reducible refine (KA.out _).mono ?_
    clear r0 r1 rlt
    rintro e w3_ ⟨rfl, hb⟩
    have Kr := Lib.hid (Kr.out.up hb)
    have Ll := Lib.hid (Ll.out.up hb)
    have BB := Lib.hid (BB.out.trans (hb.mono BB.out.size))
    clear hb
    go_wp2
    go_ret
    exact ⟨rfl, BB.out⟩
  have hf : fewB l = true := by simpa using hf
  rw [hf] at KF
  obtain ⟨h20, hv⟩ := few_val hf
  clear hf
  by_cases r1 : ¬ RkOk n d
  · rw [decide_eq_false r1] at R1
    clear r1
    have BB : Hid (Below w.heap.size w w) := Below.refl _ _
    obtain ⟨V0, hV0⟩ : ∃ V, V = w.alloc (.cells #[.int .i64 n, .int .i64 d] 42) := ⟨_, rfl⟩
    have Kr : Hid (RX V0 (w.heap.size) n d) := Lib.hid (by rw [hV0]; exact RX.new _ _ _)
    have hb : Below w.heap.size w V0 := by rw [hV0]; exact (Below.refl _ _).alloc (Nat.le_refl _) _
    have hz0 : V0.heap.size = w.heap.size + 1 := by rw [hV0]; simp only [World.size_alloc]
    have Ll := Lib.hid (Ll.out.up hb)
    have BB := Lib.hid (BB.out.trans (hb.mono BB.out.size))
    clear hb
    have HW : Hid ((w.alloc (.cells #[.int .i64 n, .int .i64 d] 42)) = V0) := Lib.hid (by rw [← hV0])
    clear hV0 hz0
    go_enter Try.func8, Try.ntmps8
    obtain ⟨r0, r1⟩ := Kr.out.box
    have rlt := Kr.out.lt
    go_wp2_with fail
    rw [HW.out]
    with_reducible refine (R1.out _).mono ?_
    clear r0 r1 rlt
    rintro e w1_ ⟨⟨r_, rfl, -⟩, hb⟩
    have Kr := Lib.hid (Kr.out.up hb)
    have Ll := Lib.hid (Ll.out.up hb)
    have BB := Lib.hid (BB.out.trans (hb.mono BB.out.size))
    clear hb
    obtain ⟨r0, r1⟩ := Kr.out.box
    have rlt := Kr.out.lt
    go_wp2_with fail
    with_reducible refine (KF.out _ Ll.out).mono ?_
    clear r0 r1 rlt
    rintro e w2_ ⟨rfl, hb⟩
    have Kr := Lib.hid (Kr.out.up hb)
    have Ll := Lib.hid (Ll.out.up hb)
    have BB := Lib.hid (BB.out.trans (hb.mono BB.out.size))
    clear hb
    obtain ⟨r0, r1⟩ := Kr.out.box
    have rlt := Kr.out.lt
    go_wp2_with fail
    with_reducible refine (KA.out _).mono ?_
    clear r0 r1 rlt
    rintro e w3_ ⟨rfl, hb⟩
    have Kr := Lib.hid (Kr.out.up hb)
    have Ll := Lib.hid (Ll.out.up hb)
    have BB := Lib.hid (BB.out.trans (hb.mono BB.out.size))
    clear hb
    go_wp2
    go_ret
    exact ⟨rfl, BB.out⟩
  have r1 : RkOk n d := Decidable.not_not.1 r1
  by_cases h0 : l.length = 0
  · have R1 := Lib.hid (fun W => rank_true r1 hn hd l.length (by omega) (by omega) W)
    have H0 := Lib.hid h0
    clear r1 h0
    have BB : Hid (Below w.heap.size w w) := Below.refl _ _
    obtain ⟨V0, hV0⟩ : ∃ V, V = w.alloc (.cells #[.int .i64 n, .int .i64 d] 42) := ⟨_, rfl⟩
    have Kr : Hid (RX V0 (w.heap.size) n d) := Lib.hid (by rw [hV0]; exact RX.new _ _ _)
    have hb : Below w.heap.size w V0 := by rw [hV0]; exact (Below.refl _ _).alloc (Nat.le_refl _) _
    have hz0 : V0.heap.size = w.heap.size + 1 := by rw [hV0]; simp only [World.size_alloc]
    have Ll := Lib.hid (Ll.out.up hb)
    have BB := Lib.hid (BB.out.trans (hb.mono BB.out.size))
    clear hb
    have HW : Hid ((w.alloc (.cells #[.int .i64 n, .int .i64 d] 42)) = V0) := Lib.hid (by rw [← hV0])
    clear hV0 hz0
    go_enter Try.func8, Try.ntmps8
    obtain ⟨r0, r1⟩ := Kr.out.box
    have rlt := Kr.out.lt
    go_wp2_with fail
    rw [HW.out]
    with_reducible refine (R1.out _).mono ?_
    clear r0 r1 rlt
    rintro e w1_ ⟨rfl, hb⟩
    have Kr := Lib.hid (Kr.out.up hb)
    have Ll := Lib.hid (Ll.out.up hb)
    have BB := Lib.hid (BB.out.trans (hb.mono BB.out.size))
    clear hb
    obtain ⟨r0, r1⟩ := Kr.out.box
    have rlt := Kr.out.lt
    go_wp2_with fail
    with_reducible refine (KF.out _ Ll.out).mono ?_
    clear r0 r1 rlt
    rintro e w2_ ⟨rfl, hb⟩
    have Kr := Lib.hid (Kr.out.up hb)
    have Ll := Lib.hid (Ll.out.up hb)
    have BB := Lib.hid (BB.out.trans (hb.mono BB.out.size))
    clear hb
    have h0 := H0.out
    obtain ⟨r0, r1⟩ := Kr.out.box
    have rlt := Kr.out.lt
    go_wp2_with fail
    with_reducible refine (KA.out _).mono ?_
    clear r0 r1 rlt
    rintro e w3_ ⟨rfl, hb⟩
    have Kr := Lib.hid (Kr.out.up hb)
    have Ll := Lib.hid (Ll.out.up hb)
    have BB := Lib.hid (BB.out.trans (hb.mono BB.out.size))
    clear hb
    go_wp2
    go_ret
    exact ⟨rfl, BB.out⟩
  have R1 := Lib.hid (fun W => rank_true r1 hn hd l.length (by omega) (by omega) W)
  obtain ⟨m, hm⟩ : ∃ m, m = p.tmod 9 := ⟨_, rfl⟩
  have hm1 : 0 ≤ m ∧ m ≤ 8 := by rw [hm, Int.tmod_eq_emod_of_nonneg hp.1]; omega
  have o1 := bld_of m l
  have g1 := o1.gi hm1.1 hm1.2 hv (by omega)
  have C1 := Lib.hid (fun A c w h => build_any m l hm1.1 hm1.2 hv (by omega) A c w h)
  generalize bldH m l = G at *
  have V1 := Lib.hid (fun W h => sortedV_any A c l (by omega) W h)
  obtain ⟨S, hSp, hSs, v2⟩ := sort_ex A c l (by omega)
  have V2 := Lib.hid v2
  clear v2
  have hSl := hSp.length_eq
  have ob := o1.len
  have ok := o1.ok hm1.1 hm1.2 hv (by omega) (by omega)
  have hc0 := o1.hc
  obtain ⟨q1, q2, q3⟩ := rkok_quant ok (by omega) r1
  rw [hc0] at q1 q2 q3
  have hS0 : 0 < S.length := by omega
  obtain ⟨f1, f2, f3, f4⟩ := bounds_facts o1 hv hSp hSs hS0 x
  obtain ⟨N, xr, hN, hN1, hx⟩ := rank_at (L := S) q2 (by omega)
  obtain ⟨M, rfl⟩ : ∃ M, N = M + 1 := ⟨N - 1, by omega⟩
  have f5 := o1.quantile hv hSp hSs hN1 hx
  rw [hN] at f5
  have hML : M < S.length := by omega
  have hxr : xr = S[M] := by
    rw [Nat.add_sub_cancel] at hx
    exact ((List.getElem?_eq_some_iff.1 hx).2).symm
  rw [← hN, show ((M + 1 : Nat) : Int) = (M : Int) + 1 by omega] at R1
  have hk := chk_iff.2 ok
  have Q1 : Hid (∀ A c W, LS W W.heap.size A G.bs → Calls Try.prog 29 #[hV G.p G.c G.s G.mn G.mx A G.bs.length c, .agg #[.int .i64 n, .int .i64 d]] W fun e w' => e = .returned (.tuple #[.int .i64 (lowH G (qI (rankN n d l.length) G.bs)), .int .i64 (highH G (qI (rankN n d l.length) G.bs)), .int .i64 0]) ∧ Below W.heap.size W w') := Lib.hid fun A c W h => by
    have C := gQuantile (c := c) g1 n d hn hd h
    rwa [q1] at C
  have K1 : Hid (∀ A c W, LS W W.heap.size A G.bs → Calls Try.prog 31 #[hV G.p G.c G.s G.mn G.mx A G.bs.length c, .int .i64 x] W fun e w' => e = .returned (.tuple #[.int .i64 (sureH G x), .int .i64 (possH G x), .int .i64 0]) ∧ Below W.heap.size W w') := Lib.hid fun A c W h => by
    have C := gRank (c := c) g1 x h
    rw [rankO, if_neg (by omega)] at C
    exact C
  have HF := Lib.hid (And.intro f1 (And.intro f2 (And.intro f3 (And.intro f4 (And.intro f5 hc0)))))
  have HXR := Lib.hid hxr
  generalize lowH G (qI (rankN n d l.length) G.bs) = L1 at *
  generalize highH G (qI (rankN n d l.length) G.bs) = H1 at *
  generalize sureH G x = S1 at *
  generalize possH G x = P1 at *
  have hm' := hm.symm
  have hpos : 0 < l.length := by omega
  have hMl : (M : Int) < l.length := by omega
  have hMS := Lib.hid (show (M : Int) < S.length by omega)
  have hM20 := Lib.hid (show (0 : Int) ≤ M ∧ (M : Int) ≤ 20 by omega)
  have hkM0 := Lib.hid (show IntKind.i64.wrap (M : Int) = M from IntWalk.i64_in _ (by omega))
  have HSl := Lib.hid hSl
  clear ok o1 g1 q1 q2 q3 f1 f2 f3 f4 f5 hN hN1 hx r1 hv hm hk hc0 ob hxr hSp hSs hSl
  have BB : Hid (Below w.heap.size w w) := Below.refl _ _
  obtain ⟨V0, hV0⟩ : ∃ V, V = w.alloc (.cells #[.int .i64 n, .int .i64 d] 42) := ⟨_, rfl⟩
  have Kr : Hid (RX V0 (w.heap.size) n d) := Lib.hid (by rw [hV0]; exact RX.new _ _ _)
  have hb : Below w.heap.size w V0 := by rw [hV0]; exact (Below.refl _ _).alloc (Nat.le_refl _) _
  have hz0 : V0.heap.size = w.heap.size + 1 := by rw [hV0]; simp only [World.size_alloc]
  have Ll := Lib.hid (Ll.out.up hb)
  have BB := Lib.hid (BB.out.trans (hb.mono BB.out.size))
  clear hb
  have HW : Hid ((w.alloc (.cells #[.int .i64 n, .int .i64 d] 42)) = V0) := Lib.hid (by rw [← hV0])
  clear hV0 hz0
  go_enter Try.func8, Try.ntmps8
  obtain ⟨r0, r1⟩ := Kr.out.box
  have rlt := Kr.out.lt
  go_wp2_with fail
  rw [HW.out]
  with_reducible refine (R1.out _).mono ?_
  clear r0 r1 rlt
  rintro e w1_ ⟨rfl, hb⟩
  have Kr := Lib.hid (Kr.out.up hb)
  have Ll := Lib.hid (Ll.out.up hb)
  have BB := Lib.hid (BB.out.trans (hb.mono BB.out.size))
  clear hb
  obtain ⟨r0, r1⟩ := Kr.out.box
  have rlt := Kr.out.lt
  go_wp2_with fail
  with_reducible refine (KF.out _ Ll.out).mono ?_
  clear r0 r1 rlt
  rintro e w2_ ⟨rfl, hb⟩
  have Kr := Lib.hid (Kr.out.up hb)
  have Ll := Lib.hid (Ll.out.up hb)
  have BB := Lib.hid (BB.out.trans (hb.mono BB.out.size))
  clear hb
  obtain ⟨r0, r1⟩ := Kr.out.box
  have rlt := Kr.out.lt
  go_wp2_with fail
  with_reducible refine (C1.out _ _ _ Ll.out).mono ?_
  clear r0 r1 rlt
  rintro e w3_ ⟨Ag, cg, rfl, hl, hb⟩
  have Kr := Lib.hid (Kr.out.up hb)
  have Ll := Lib.hid (Ll.out.up hb)
  have BB := Lib.hid (BB.out.trans (hb.mono BB.out.size))
  clear hb
  obtain ⟨r0, r1⟩ := Kr.out.box
  have rlt := Kr.out.lt
  go_wp2_with fail
  clear r0 r1 rlt
  have Kg := Lib.hid (HX.new hl (c := cg))
  clear hl
  have hb : Below w3_.heap.size w3_ (w3_.alloc (.cells #[.int .i64 G.p, .int .i64 G.c, .int .i64 G.s, .int .i64 G.mn, .int .i64 G.mx, .slice Ag G.bs.length cg] 29)) := (Below.refl _ _).alloc (Nat.le_refl _) _
  have Kr := Lib.hid (Kr.out.up hb)
  have Ll := Lib.hid (Ll.out.up hb)
  have BB := Lib.hid (BB.out.trans (hb.mono BB.out.size))
  clear hb
  generalize w3_.alloc (.cells #[.int .i64 G.p, .int .i64 G.c, .int .i64 G.s, .int .i64 G.mn, .int .i64 G.mx, .slice Ag G.bs.length cg] 29) = w3_x at *
  with_reducible refine (V1.out _ Ll.out).mono ?_
  rintro e w4_ ⟨rfl, rfl⟩
  go_wp2_with fail
  with_reducible refine (V2.out _ Ll.out).mono ?_
  clear V1 V2
  rintro e wsrt ⟨AS, cS, rfl, hls, hb⟩
  have Kr := Lib.hid (Kr.out.up hb)
  have Kg := Lib.hid (Kg.out.up hb)
  have Ll := Lib.hid (Ll.out.up hb)
  have BB := Lib.hid (BB.out.trans (hb.mono BB.out.size))
  clear hb
  have LS_ := Lib.hid hls
  clear hls Ll
  obtain ⟨r0, r1⟩ := Kr.out.box
  have rlt := Kr.out.lt
  obtain ⟨g0, g1, g2, g3, g4, g5⟩ := Kg.out.box
  have glt := Kg.out.lt
  go_wp2_with fail
  with_reducible refine (Q1.out _ _ _ Kg.out.ls).mono ?_
  clear r0 r1 rlt
  clear g0 g1 g2 g3 g4 g5 glt
  rintro e w5_ ⟨rfl, hb⟩
  have Kr := Lib.hid (Kr.out.up hb)
  have Kg := Lib.hid (Kg.out.up hb)
  have LS_ := Lib.hid (LS_.out.up hb)
  have BB := Lib.hid (BB.out.trans (hb.mono BB.out.size))
  clear hb
  obtain ⟨r0, r1⟩ := Kr.out.box
  have rlt := Kr.out.lt
  obtain ⟨g0, g1, g2, g3, g4, g5⟩ := Kg.out.box
  have glt := Kg.out.lt
  go_wp2_with fail
  with_reducible refine (K1.out _ _ _ Kg.out.ls).mono ?_
  clear r0 r1 rlt
  clear g0 g1 g2 g3 g4 g5 glt
  rintro e w6_ ⟨rfl, hb⟩
  have Kr := Lib.hid (Kr.out.up hb)
  have Kg := Lib.hid (Kg.out.up hb)
  have LS_ := Lib.hid (LS_.out.up hb)
  have BB := Lib.hid (BB.out.trans (hb.mono BB.out.size))
  clear hb
  obtain ⟨g0, g1, g2, g3, g4, g5⟩ := Kg.out.box
  have glt := Kg.out.lt
  obtain ⟨bS, oS, rfl, hbS, hcS⟩ := LS_.out (by intro e; have := HSl.out; rw [e] at this; simp only [List.length_nil] at this; omega)
  have HS := Lib.hid hcS
  clear hcS
  go_wp2_with fail
  go_loop [20, 70] (fun vc vi => ∃ k : Nat, k ≤ S.length ∧ vc = .int .i64 (cntV x (S.take k)) ∧ vi = .int .i64 k) (fun _ vi => S.length - (intOf vi).toNat)
  case atStart => exact ⟨0, Nat.zero_le _, rfl, rfl⟩
  case round =>
    obtain ⟨k, hk, rfl, rfl⟩ := hrel
    have hcl := cntV_le x (S.take k)
    have hsl := HSl.out
    by_cases hlt : k < S.length
    · have hcell := HS.out k hlt
      have hi : (k : Int) < l.length := by omega
      have hsn := cntV_snoc x (S.take k) S[k]
      rw [← List.take_succ_eq_append_getElem hlt] at hsn
      have hlk : (S.take k).length = k := by rw [List.length_take]; omega
      have hcw : wrap64 (cntV x (S.take k) + 1) = cntV x (S.take k) + 1 := wrap_in (by omega)
      have HSN := Lib.hid hsn
      clear hsn
      clear hsl
      generalize cntV x (S.take k) = cc at *
      generalize S[k] = v at *
      by_cases hvx : v ≤ x
      · go_wp2_with fail
        go_round
        case rel => exact ⟨k + 1, by omega, by rw [HSN.out, if_pos hvx], by go_num⟩
        case measure => simp [intOf]; omega
      · go_wp2_with fail
        go_round
        case rel => exact ⟨k + 1, by omega, by rw [HSN.out, if_neg hvx, Int.add_zero], by go_num⟩
        case measure => simp [intOf]; omega
    · obtain rfl : k = S.length := by omega
      rw [List.take_length]
      have hsl := HSl.out
      obtain ⟨f1, f2, f3, f4, f5, f6⟩ := HF.out
      have c0 := HS.out 0 (by omega)
      have cM := HS.out M hML
      obtain ⟨L, hL⟩ : ∃ L, S.length - 1 = L := ⟨_, rfl⟩
      have cL := HS.out (S.length - 1) (by omega)
      rw [← f1] at c0
      rw [← HXR.out] at cM
      rw [← f2] at cL
      rw [hL] at cL
      simp only [Nat.add_zero] at c0
      have hi : ¬ (S.length : Int) < l.length := by omega
      have hLl : (L : Int) < l.length := by omega
      have hwM : wrap64 ((M : Int) + 1 - 1) = M := by rw [Int.add_sub_cancel]; exact wrap_in (by omega)
      have hwM2 : wrap64 (M : Int) = M := wrap_in (by omega)
      have hwL : wrap64 ((l.length : Int) - 1) = L := by rw [wrap_in (by omega)]; omega
      have hwL2 : (l.length : Int) - 1 = L := by omega
      obtain ⟨f5a, f5b⟩ := f5
      have hMS := hMS.out
      have hLS : (L : Int) < S.length := by omega
      have hwS : wrap64 ((S.length : Int) - 1) = L := by rw [wrap_in (by omega)]; omega
      have hwS2 : (S.length : Int) - 1 = L := by omega
      have hpS : (0 : Int) < S.length := by omega
      have hkM := hkM0.out
      have hkS : IntKind.i64.wrap ((S.length : Int) - 1) = L := by rw [IntWalk.i64_in _ (by omega)]; omega
      have hkL : IntKind.i64.wrap (L : Int) = L := IntWalk.i64_in _ (by omega)
      generalize cntV x S = cn at *
      clear f1 f2 hsl hL HXR HF
      go_wp2_with fail
      refine wp_region_still_tail 64 (by kernel_rfl) (by kernel_rfl) ?_
      simp only [List.take_succ_cons, List.take_zero, List.drop_succ_cons, List.drop_zero]
      refine still_of_quiet ?_
      repeat (go_big_quiet_step (fail))
      refine wpQuiet_nil ?_
      change wpList _ _ _ _ _ w6_.drew
      have BB := Lib.hid (bel_drew BB.out)
      clear HS cL cM c0 g0 g1 g2 g3 g4 g5 glt
      generalize w6_.drew = w7_ at *
      go_wp2_with fail
      with_reducible refine (KA.out _).mono ?_
      rintro e w8_ ⟨rfl, hb⟩
      have BB := Lib.hid (BB.out.trans (hb.mono BB.out.size))
      clear hb
      go_wp2
      go_ret
      exact ⟨rfl, BB.out⟩
end Go.Proofs.Ytffnopdpndpngaa.Lh
