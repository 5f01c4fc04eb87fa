/- Layer 12: contracts of the program, as the laws ask. -/
import Derived.Test.YtffnopdpndpngaaNd
import Derived.Test.YtffnopdpndpngaaMu
set_option linter.unusedVariables false
set_option linter.unusedSimpArgs false
namespace Go.Proofs.Ytffnopdpndpngaa.Lh
open Go.RowKit
/-- A fraction in memory. -/
structure RX (W : World) (g : Nat) (n d : Int) : Prop where
  box : W.cell? ⟨g, 0, none⟩ = some (.int .i64 n) ∧ W.cell? ⟨g, 1, none⟩ = some (.int .i64 d)
  lt : g < W.heap.size
theorem RX.up {W V : World} {g : Nat} {n d : Int} (h : RX W g n d) (hb : Below W.heap.size W V) : RX V g n d :=
  ⟨⟨(hb.cell (p := ⟨g, 0, none⟩) h.lt).trans h.box.1, (hb.cell (p := ⟨g, 1, none⟩) h.lt).trans h.box.2⟩, Nat.lt_of_lt_of_le h.lt hb.size⟩
theorem RX.new (W : World) (n d : Int) : RX (W.alloc (.cells #[.int .i64 n, .int .i64 d] 42)) W.heap.size n d := ⟨⟨by simp, by simp⟩, by simp⟩
/-- Small numbers. -/
structure GI (G : H) : Prop where
  len : G.bs.length ≤ 100000
  s : inI G.s
  mn : inI G.mn
  mx : inI G.mx
theorem Of.gi {p : Int} {vs : List Int} {h : H} (o : Of p vs h) (h0 : 0 ≤ p) (h8 : p ≤ 8) (hv : Val vs) (hn : vs.length ≤ 500) : GI h := by
  obtain ⟨i1, i2, i3, i4⟩ := o.inI h0 h8 hv hn
  exact ⟨by omega, i1, i2, i3⟩
theorem bld_gi {p : Int} {vs : List Int} (h0 : 0 ≤ p) (h8 : p ≤ 8) (hv : Val vs) (hn : vs.length ≤ 500) : GI (bldH p vs) := (bld_of p vs).gi h0 h8 hv hn
section
variable {G K : H} {A B : Option Addr} {c k : Nat} {W : World}
theorem gCheck (hG : GI G) (h : LS W W.heap.size A G.bs) : Calls Try.prog 25 #[hV G.p G.c G.s G.mn G.mx A G.bs.length c] W fun e w' => e = .returned (.int .i64 (chk G : Nat)) ∧ Below W.heap.size W w' :=
  pCheck_any G.p G.c G.s G.mn G.mx G.bs (by have := hG.len; omega) hG.mn hG.mx A c W h
theorem gAdd (hG : GI G) (v n : Int) (h : LS W W.heap.size A G.bs) : Calls Try.prog 21 #[hV G.p G.c G.s G.mn G.mx A G.bs.length c, .int .i64 v, .int .i64 n] W (HOut W (addO G v n)) :=
  pAdd_any G.p G.c G.s G.mn G.mx v n G.bs (by have := hG.len; omega) hG.s hG.mn hG.mx A c W h
theorem gReduce (hG : GI G) (q : Int) (h : LS W W.heap.size A G.bs) : Calls Try.prog 23 #[hV G.p G.c G.s G.mn G.mx A G.bs.length c, .int .i64 q] W (HOut W (redO G q)) :=
  pReduce_any G.p G.c G.s G.mn G.mx q G.bs (by have := hG.len; omega) hG.s hG.mn hG.mx A c W h
theorem gMerge (hG : GI G) (hK : GI K) (h : LS W W.heap.size A G.bs) (h2 : LS W W.heap.size B K.bs) : Calls Try.prog 27 #[hV G.p G.c G.s G.mn G.mx A G.bs.length c, hV K.p K.c K.s K.mn K.mx B K.bs.length k] W (HOut W (mrgO G K)) :=
  pMerge_any G.p G.c G.s G.mn G.mx K.p K.c K.s K.mn K.mx G.bs K.bs (by have := hG.len; omega) (by have := hK.len; omega) hG.mn hG.mx hK.mn hK.mx A B c k W h h2
theorem gQuantile (hG : GI G) (n d : Int) (hn : inI n) (hd : inI d) (h : LS W W.heap.size A G.bs) : Calls Try.prog 29 #[hV G.p G.c G.s G.mn G.mx A G.bs.length c, .agg #[.int .i64 n, .int .i64 d]] W fun e w' => e = .returned (quantO G n d) ∧ Below W.heap.size W w' :=
  pQuantile_any G.p G.c G.s G.mn G.mx n d G.bs (by have := hG.len; omega) hG.mn hG.mx hn hd A c W h
theorem gRank (hG : GI G) (x : Int) (h : LS W W.heap.size A G.bs) : Calls Try.prog 31 #[hV G.p G.c G.s G.mn G.mx A G.bs.length c, .int .i64 x] W fun e w' => e = .returned (rankO G x) ∧ Below W.heap.size W w' :=
  pRank_any G.p G.c G.s G.mn G.mx x G.bs (by have := hG.len; omega) hG.mn hG.mx A c W h
theorem gSame (hG : GI G) (h : LS W W.heap.size A G.bs) (h2 : LS W W.heap.size B G.bs) : Calls Try.prog 18 #[hV G.p G.c G.s G.mn G.mx A G.bs.length c, hV G.p G.c G.s G.mn G.mx B G.bs.length k] W fun e w' => e = .returned (.bool true) ∧ Below W.heap.size W w' :=
  same_any G (by have := hG.len; omega) A B c k W h h2
end
theorem sorted_ex (vs : List Int) : ∃ L : List Int, vs.Perm L ∧ L.Pairwise fun a b => a ≤ b := by
  refine ⟨vs.mergeSort (fun a b => decide (a ≤ b)), (List.mergeSort_perm _ _).symm, ?_⟩
  have h := List.pairwise_mergeSort (le := fun a b : Int => decide (a ≤ b)) (fun a b c h1 h2 => by simp only [decide_eq_true_eq] at *; omega) (fun a b => by simp only [Bool.or_eq_true, decide_eq_true_eq]; omega) vs
  exact h.imp fun hh => by simpa using hh
/-- Every rank has a value. -/
theorem rank_at {L : List Int} {r : Int} (h1 : 1 ≤ r) (h2 : r ≤ L.length) : ∃ (N : Nat) (x : Int), (N : Int) = r ∧ 1 ≤ N ∧ L[N - 1]? = some x :=
  ⟨r.toNat, L[r.toNat - 1]'(by omega), by omega, by omega, List.getElem?_eq_getElem _⟩
theorem quant_ok {G : H} (ok : Ok G) {n d : Int} (h : Rat.chk n d) (h2 : ¬ (n < 0 ∨ d < n)) (h3 : G.c ≠ 0) (h4 : Rat.FitsQ (prodQ n d G.c)) : quantO G n d = .tuple #[.int .i64 (lowH G (qI (rkQ n d G.c) G.bs)), .int .i64 (highH G (qI (rkQ n d G.c) G.bs)), .int .i64 0] := by
  have h0 := chk_iff.2 ok
  unfold quantO
  rw [if_neg (fun e => e.elim (fun e => e h0) (fun e => e h)), if_neg h2, if_neg h3, if_pos h4]
/-- The error of a quantile of a valid histogram. -/
def quantE (c n d : Int) : Int := if ¬ Rat.chk n d then 1 else if n < 0 ∨ d < n then 2 else if c = 0 then 28 else if Rat.FitsQ (prodQ n d c) then 0 else 14
theorem quantE_zero {c n d : Int} (h : quantE c n d = 0) : Rat.chk n d ∧ ¬ (n < 0 ∨ d < n) ∧ c ≠ 0 ∧ Rat.FitsQ (prodQ n d c) := by
  unfold quantE at h
  split at h
  · exact absurd h (by decide)
  · rename_i h1
    split at h
    · exact absurd h (by decide)
    · rename_i h2
      split at h
      · exact absurd h (by decide)
      · rename_i h3
        split at h
        · rename_i h4
          exact ⟨Decidable.not_not.1 h1, h2, h3, h4⟩
        · exact absurd h (by decide)
theorem quant_form {G : H} (ok : Ok G) (n d : Int) : quantO G n d = if quantE G.c n d = 0 then .tuple #[.int .i64 (lowH G (qI (rkQ n d G.c) G.bs)), .int .i64 (highH G (qI (rkQ n d G.c) G.bs)), .int .i64 0] else .tuple #[.int .i64 0, .int .i64 0, .int .i64 (quantE G.c n d)] := by
  by_cases z : quantE G.c n d = 0
  · obtain ⟨h1, h2, h3, h4⟩ := quantE_zero z
    rw [if_pos z, quant_ok ok h1 h2 h3 h4]
  · rw [if_neg z]
    have h0 := chk_iff.2 ok
    unfold quantO quantE
    unfold quantE at z
    by_cases a : Rat.chk n d
    · have a1 : ¬ ¬ Rat.chk n d := fun e => e a
      have a2 : ¬ (chk G ≠ 0 ∨ ¬ Rat.chk n d) := fun e => e.elim (fun e => e h0) (fun e => e a)
      rw [if_neg a1] at z ⊢
      rw [if_neg a2]
      by_cases b : n < 0 ∨ d < n
      · rw [if_pos b, if_pos b]
      · rw [if_neg b] at z
        rw [if_neg b, if_neg b]
        by_cases c : G.c = 0
        · rw [if_pos c, if_pos c]
        · rw [if_neg c] at z
          rw [if_neg c, if_neg c]
          by_cases f : Rat.FitsQ (prodQ n d G.c)
          · rw [if_pos f] at z
            exact absurd rfl z
          · rw [if_neg f, if_neg f]
    · rw [if_pos a, if_pos (.inr a)]
/-- A reduced histogram's quantiles are at most wider. -/
theorem quant_red {p q : Int} {vs : List Int} {G1 G2 : H} (o : Of p vs G1) (u : Of q vs G2) (h0 : 0 ≤ q) (hq : q ≤ p) (h8 : p ≤ 8) (hv : Val vs) (hn : vs.length ≤ 500) (n d : Int) :
    ∃ x1 y1 x2 y2 e : Int, quantO G1 n d = .tuple #[.int .i64 x1, .int .i64 y1, .int .i64 e] ∧ quantO G2 n d = .tuple #[.int .i64 x2, .int .i64 y2, .int .i64 e] ∧ (e ≠ 0 ∨ (x2 ≤ x1 ∧ y1 ≤ y2)) := by
  have l1 := o.len
  have l2 := u.len
  have k1 := o.ok (by omega) h8 hv (by omega) (by omega)
  have k2 := u.ok h0 (by omega) hv (by omega) (by omega)
  have c1 := o.hc
  have c2 := u.hc
  rw [quant_form k1, quant_form k2, c1, c2]
  by_cases z : quantE vs.length n d = 0
  · rw [if_pos z, if_pos z]
    refine ⟨_, _, _, _, _, rfl, rfl, .inr ?_⟩
    obtain ⟨a, b, z2, f⟩ := quantE_zero z
    obtain ⟨L, hL, hs⟩ := sorted_ex vs
    have hr := rkQ_in (num := n) (den := d) (c := vs.length) (by have := a.1.1; omega) (by omega) (by omega) (by omega)
    obtain ⟨N, x, hN, hN1, hx⟩ := rank_at hr.1 (by rw [← hL.length_eq]; exact hr.2)
    rw [← hN]
    exact o.wider u h0 hq hv hL hs hN1 hx
  · rw [if_neg z, if_neg z]
    exact ⟨_, _, _, _, _, rfl, rfl, .inl z⟩
end Go.Proofs.Ytffnopdpndpngaa.Lh
