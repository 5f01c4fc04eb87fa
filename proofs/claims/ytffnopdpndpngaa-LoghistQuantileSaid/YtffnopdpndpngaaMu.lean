/- Layer 12: the program's Rank. -/
import Derived.Test.YtffnopdpndpngaaMs
set_option linter.unusedVariables false
set_option linter.unusedSimpArgs false
namespace Go.Proofs.Ytffnopdpndpngaa.Lh
open Go.RowKit Go.Shelf
attribute [local go_sem] Oper.semAt_some
/-- Two boxes that are written, and one that is read. -/
structure RB (w W : World) (b3 b4 b5 N : Nat) (x v4 v5 : Value) : Prop where
  k4 : Boxed W b4 3 v4
  k5 : Boxed W b5 3 v5
  k3 : Boxed W b3 3 x
  bel : Below w.heap.size w W
  sz : N ≤ W.heap.size
structure RA (w : World) (b1 b2 b3 b4 b5 : Nat) : Prop where
  ne : b4 ≠ b5
  g4 : w.heap.size ≤ b4
  g5 : w.heap.size ≤ b5
  n4 : b3 ≠ b4
  n5 : b3 ≠ b5
  a4 : b1 ≠ b4
  a5 : b1 ≠ b5
  c4 : b2 ≠ b4
  c5 : b2 ≠ b5
theorem RB.set4 {w W : World} {b1 b2 b3 b4 b5 N : Nat} {x v4 v5 : Value} (r : RA w b1 b2 b3 b4 b5) (h : RB w W b3 b4 b5 N x v4 v5) (y : Value) : KeepsOthers W (W.setCell ⟨b4, 0, none⟩ y) ∧ KK b1 b2 W (W.setCell ⟨b4, 0, none⟩ y) ∧ RB w (W.setCell ⟨b4, 0, none⟩ y) b3 b4 b5 N x y v5 :=
  ⟨KeepsOthers.setCell _ _ _, KK.set r.a4 r.c4, h.k4.set y, h.k5.other (Ne.symm r.ne) _, h.k3.other r.n4 _, h.bel.setCell (p := ⟨b4, 0, none⟩) r.g4 _, by have := h.sz; simpa using this⟩
theorem RB.set5 {w W : World} {b1 b2 b3 b4 b5 N : Nat} {x v4 v5 : Value} (r : RA w b1 b2 b3 b4 b5) (h : RB w W b3 b4 b5 N x v4 v5) (y : Value) : KeepsOthers W (W.setCell ⟨b5, 0, none⟩ y) ∧ KK b1 b2 W (W.setCell ⟨b5, 0, none⟩ y) ∧ RB w (W.setCell ⟨b5, 0, none⟩ y) b3 b4 b5 N x v4 y :=
  ⟨KeepsOthers.setCell _ _ _, KK.set r.a5 r.c5, h.k4.other r.ne _, h.k5.set y, h.k3.other r.n5 _, h.bel.setCell (p := ⟨b5, 0, none⟩) r.g5 _, by have := h.sz; simpa using this⟩
def rankO (h : H) (x : Int) : Value := if chk h ≠ 0 then .tuple #[.int .i64 0, .int .i64 0, .int .i64 1] else .tuple #[.int .i64 (sureH h x), .int .i64 (possH h x), .int .i64 0]
set_option maxRecDepth 100000 in
set_option maxHeartbeats 4000000 in
theorem pRank_any (p cc ss mn mx x : Int) (l : List B) (hlen : l.length ≤ 140737488355328) (hmn : inI mn) (hmx : inI mx) (A : Option Addr) (c : Nat) (w : World) (hA : LS w w.heap.size A l) :
    Calls Try.prog 31 #[hV p cc ss mn mx A l.length c, .int .i64 x] w fun e w' => e = .returned (rankO ⟨p, cc, ss, mn, mx, l⟩ x) ∧ Below w.heap.size w w' := by
  have hmix : Try.prog.follows .mixedOrders = true := by kernel_rfl
  obtain ⟨W1, hW1⟩ : ∃ W1, W1 = (w.alloc (.cells #[.int .i64 p, .int .i64 cc, .int .i64 ss, .int .i64 mn, .int .i64 mx, .slice A l.length c] 29)).alloc (.cells #[.int .i64 x] 3) := ⟨_, rfl⟩
  have hz1 : W1.heap.size = w.heap.size + 2 := by rw [hW1]; simp only [World.size_alloc]
  have B1 : Below w.heap.size w W1 := by rw [hW1]; exact ((Below.refl _ w).alloc (Nat.le_refl _) _).alloc (by simp) _
  have kx : Boxed W1 (w.heap.size + 1) 3 (.int .i64 x) := by
    rw [hW1]
    have h := Boxed.new (w.alloc (.cells #[.int .i64 p, .int .i64 cc, .int .i64 ss, .int .i64 mn, .int .i64 mx, .slice A l.length c] 29)) 3 (.int .i64 x)
    simpa only [World.size_alloc] using h
  have C0 : HC W1 w.heap.size p cc ss mn mx A l.length c := by
    rw [hW1]
    exact (HC.new w 29 p cc ss mn mx A l.length c).keep (Nat.lt_succ_self _) ((Below.refl _ _).alloc (by simp) _)
  have CK := pCheck_any p cc ss mn mx l hlen hmn hmx A c W1 ((hA.below B1).more B1.size)
  have HW1 := Lib.hid hW1.symm
  clear hW1
  refine (callsIn_wide (n := 6)).1 ?_
  refine callsIn_of_wp_marks Try.func31 rfl trivial ?_ rfl
  simp only [Try.ntmps31, List.size_toArray, List.length_cons, List.length_nil, Nat.reduceAdd, Nat.reduceSub, Array.replicate_succ, Array.replicate_zero, List.push_toArray, List.append_toArray, List.nil_append, List.cons_append]
  by_cases h1 : chk ⟨p, cc, ss, mn, mx, l⟩ ≠ 0
  · rw [rankO, if_pos h1]
    have h1b : ((chk ⟨p, cc, ss, mn, mx, l⟩ : Nat) : Int) ≠ 0 := by omega
    have h1c : (((chk ⟨p, cc, ss, mn, mx, l⟩ : Nat) : Int) != 0) = true := by simpa using h1
    have h1d : (chk ⟨p, cc, ss, mn, mx, l⟩ != 0) = true := by simpa using h1
    have HB := Lib.hid B1
    have KC := Lib.hid CK
    clear hA kx C0 hz1 B1 CK
    generalize chk ⟨p, cc, ss, mn, mx, l⟩ = zz at *
    gi_wp2_with fail
    refine ⟨trivial, ?_⟩
    rw [HW1.out]
    refine (callsIn_wide.2 KC.out).mono ?_
    rintro e w2 ⟨rfl, hb⟩
    have HB2 := Lib.hid (HB.out.trans (hb.mono HB.out.size))
    clear hb
    gi_wp2
    refine ⟨.tuple #[.int .i64 0, .int .i64 0, .int .i64 1], by simp [results, Try.f31, go_sem], ?_⟩
    exact ⟨rfl, HB2.out⟩
  have h1 : chk ⟨p, cc, ss, mn, mx, l⟩ = 0 := by omega
  have ok := chk_iff.1 h1
  rw [rankO, if_neg (by omega)]
  rw [h1] at CK
  have HE : Hid ((rkL x (its p mn mx 0 l)) = (sureH ⟨p, cc, ss, mn, mx, l⟩ x, possH ⟨p, cc, ss, mn, mx, l⟩ x)) := rkL_is ok x
  have hl := ok.len
  have hp : 0 ≤ p ∧ p ≤ 8 := ⟨ok.p0, ok.p8⟩
  have hr : ∀ b ∈ l, 0 ≤ b.1 ∧ b.1 ≤ topI p := fun b hb => ⟨(ok.rng b hb).1, (ok.rng b hb).2.1⟩
  have hpos : Pos l := ok.pos
  have ht : tot l ≤ 1048576 := ok.tot
  dsimp only at hl
  generalize sureH ⟨p, cc, ss, mn, mx, l⟩ x = q1 at *
  generalize possH ⟨p, cc, ss, mn, mx, l⟩ x = q2 at *
  clear ok h1
  have KC := Lib.hid CK
  have HB1 := Lib.hid B1
  have HC0 := Lib.hid C0
  have HKX := Lib.hid kx
  have HA := Lib.hid hA
  have HZ1 := Lib.hid hz1
  clear CK B1 C0 kx hA hz1
  gi_wp2_with fail
  refine ⟨trivial, ?_⟩
  rw [HW1.out]
  clear HW1
  refine (callsIn_wide.2 KC.out).mono ?_
  rintro e w2 ⟨rfl, hb⟩
  have HB2 := Lib.hid (HB1.out.trans (hb.mono HB1.out.size))
  have HK2 := Lib.hid (boxed_below HKX.out hb)
  have HC2 := Lib.hid (HC0.out.keep (by have := HZ1.out; omega) hb)
  have hs2 : w.heap.size + 2 ≤ w2.heap.size := by have := hb.size; have := HZ1.out; omega
  clear hb KC HKX HC0 HB1 HZ1
  obtain ⟨m0, m1, m2, m3, m4, m5⟩ := HC2.out
  have hne1 : w.heap.size < w2.heap.size := by omega
  gi_wp2_with fail
  clear m0 m1 m2 m3 m4 m5
  refine ⟨trivial, ?_⟩
  refine (asc_in _ p cc ss mn mx A l.length c _).mono ?_
  rintro e w' ⟨rfl, rfl⟩
  gi_wp2_with fail
  obtain ⟨W2, hW2⟩ : ∃ W2, W2 = (w2.alloc (.cells #[.int .i64 0] 3)).alloc (.cells #[.int .i64 0] 3) := ⟨_, rfl⟩
  have k4 : Boxed W2 w2.heap.size 3 (.int .i64 0) := by
    rw [hW2]
    exact (Boxed.new w2 3 (.int .i64 0)).alloc _
  have k5 : Boxed W2 (w2.heap.size + 1) 3 (.int .i64 0) := by
    rw [hW2]
    have h := Boxed.new (w2.alloc (.cells #[.int .i64 0] 3)) 3 (.int .i64 0)
    simpa only [World.size_alloc] using h
  have k3 : Boxed W2 (w.heap.size + 1) 3 (.int .i64 x) := by
    rw [hW2]
    exact (HK2.out.alloc _).alloc _
  have hb2 : Below w.heap.size w W2 := by rw [hW2]; exact (HB2.out.alloc HB2.out.size _).alloc (by simp; omega) _
  have hz2 : W2.heap.size = w2.heap.size + 1 + 1 := by rw [hW2]; simp only [World.size_alloc]
  rw [← hW2]
  clear hW2
  obtain ⟨H, hH⟩ : ∃ H : Obj, H = .cells #[.int .i64 p, .int .i64 cc, .int .i64 ss, .int .i64 mn, .int .i64 mx, .slice A l.length c] 29 := ⟨_, rfl⟩
  have hbl := HC.new W2 29 p cc ss mn mx A l.length c
  rw [hz2] at hbl
  rw [← hH] at hbl ⊢
  clear hH
  have K4 : Hid (Boxed (W2.alloc H) w2.heap.size 3 (.int .i64 0)) := k4.alloc _
  have K5 : Hid (Boxed (W2.alloc H) (w2.heap.size + 1) 3 (.int .i64 0)) := k5.alloc _
  have K3 : Hid (Boxed (W2.alloc H) (w.heap.size + 1) 3 (.int .i64 x)) := k3.alloc _
  have HB0 : Hid (Below w.heap.size w (W2.alloc H)) := hb2.alloc hb2.size _
  have hz0 : (W2.alloc H).heap.size = w2.heap.size + 3 := by simp only [World.size_alloc]; omega
  clear k4 k5 k3 hb2
  generalize W2.alloc H = W0 at *
  obtain ⟨b1, o, hL, hlt1, hor⟩ := liesH_new p cc ss mn mx l A c w W0 (w2.heap.size + 1 + 1) HA.out HB0.out hbl (by omega)
  have RR : RA w b1 (w2.heap.size + 1 + 1) (w.heap.size + 1) w2.heap.size (w2.heap.size + 1) := ⟨by omega, by omega, by omega, by omega, by omega, by omega, by omega, by omega, by omega⟩
  have HRR := Lib.hid RR
  have ST := Lib.hid (asc_stops (fun _ => True) 5 (by omega) b1 (w2.heap.size + 1 + 1) o c p cc ss mn mx A l hl hp hr hpos ht (fun _ _ => trivial) W0 hlt1 (by omega) hL)
  have hle0 := HB0.out.size
  clear hL hbl HA hr hpos ht RR hz2 HB2 HK2 HC2 W2
  refine wpIn_rangeFunc_ownH rfl (by omega) (gf := 80) (lb := #[.pointer (some ⟨w2.heap.size + 1 + 1, 0, none⟩)]) rfl trivial (enters_of Try.func80 (by kernel_rfl) rfl)
    ST.out (fun h k => h.trans k) (fun W lq oq oq' hlq hq hc hw => KK.put (by omega) (by omega)) (Below.refl _ _) (fun _ => rfl)
    (fun pre W => (((Boxed W w2.heap.size 3 (.int .i64 (rkL x (valQ pre)).1) ∧ Boxed W (w2.heap.size + 1) 3 (.int .i64 (rkL x (valQ pre)).2)) ∧ Boxed W (w.heap.size + 1) 3 (.int .i64 x)) ∧ Below w.heap.size w W) ∧ W0.heap.size ≤ W.heap.size)
    (fun _ _ _ => False)
    (OwnFrom.and (OwnFrom.and (OwnFrom.and (OwnFrom.and (Own.from (boxed_own _ _ (fun (pre : List (QE (fun _ => True))) => _)) _) (Own.from (boxed_own _ _ (fun (pre : List (QE (fun _ => True))) => _)) _)) (Own.from (boxed_own _ _ (fun (pre : List (QE (fun _ => True))) => _)) _)) (ownFrom_below (by omega) (by omega))) (fun s X Y row h hg hr => Nat.le_trans h hg.size))
    (fun c s A B row h hg hr => h)
    ⟨⟨⟨⟨K4.out, K5.out⟩, K3.out⟩, HB0.out⟩, Nat.le_refl _⟩
    (fun x' a' W => ∃ Bp, w2.heap.size + 1 + 1 < Bp ∧ W.heap[Bp]? = some (.cells #[.int .i64 x'.1.1, .int .i64 x'.1.2.1, .int .i64 x'.1.2.2.1] 79 (0, 0)) ∧ a' = { tmps := #[hV p cc ss mn mx A l.length c, .int .i64 x, .pointer (some ⟨w.heap.size, 0, none⟩), .pointer (some ⟨w.heap.size + 1, 0, none⟩), .int .i64 0, .int .i64 0, .int .i64 0, .pointer (some ⟨w2.heap.size, 0, none⟩), .pointer (some ⟨w2.heap.size + 1, 0, none⟩), .pointer (some ⟨Bp, 0, none⟩), .int .i64 x'.1.2.2.2, hV p cc ss mn mx A l.length c, .int .i64 0, .bool false, hV p cc ss mn mx A l.length c, .func (.func 80) #[] #[.pointer (some ⟨w2.heap.size + 1 + 1, 0, none⟩)], .agg #[.int .i64 x'.1.1, .int .i64 x'.1.2.1, .int .i64 x'.1.2.2.1], .int .i64 x'.1.2.2.2, undef, undef, undef, undef, undef, undef, undef, undef, undef, undef, undef, undef], defers := [] })
    (fun x' a' _ A B row hs hg hr => by
      obtain ⟨Bp, i1, i2, i3⟩ := hs
      exact ⟨Bp, i1, row_own (β := Unit) Bp _ (fun _ => _) () A B row i2 hg (fun r e => (hr r e).2), i3⟩)
    ?assign ?body ?done ?stop
  case assign =>
    rintro lc pre x' W K ⟨⟨⟨⟨i1, i2⟩, i3⟩, i4⟩, i5⟩ hK
    have hle := i4.size
    gi_wp2
    refine hK _ _ ((KeepsOthers.alloc _ _).from _) (KK.al _ (by omega) (by omega)) ⟨⟨⟨⟨i1.alloc _, i2.alloc _⟩, i3.alloc _⟩, i4.alloc hle _⟩, by simp; omega⟩ ⟨W.heap.size, by omega, heap_alloc_new _ _, rfl⟩
  case body =>
    rintro lc pre x' a' W hlc _ ⟨⟨⟨⟨i1, i2⟩, i3⟩, i4⟩, i5⟩ ⟨Bp, j1, j2, rfl⟩ hlt
    have hvs := valQ_snoc pre x'
    obtain ⟨⟨xc, xl, xh, xu⟩, hx⟩ := x'
    have hst := rkL_snoc x (valQ pre) (xc, xl, xh, xu)
    rw [← hvs] at hst
    unfold rkS at hst
    dsimp only at hst hvs j2 ⊢
    generalize rkL x (valQ pre) = S at *
    have RBS : RB w W (w.heap.size + 1) w2.heap.size (w2.heap.size + 1) W0.heap.size (.int .i64 x) (.int .i64 S.1) (.int .i64 S.2) := ⟨i1, i2, i3, i4, i5⟩
    have HR := Lib.hid RBS
    obtain ⟨p0, p1, p2⟩ := cells3' j2
    have hc3 := i3.cell
    have hc4 := i1.cell
    have hf4 := i1.frozen
    have hc5 := i2.cell
    have hf5 := i2.frozen
    have hle := i4.size
    have n1 : ¬ Bp = w2.heap.size := by omega
    have n2 : ¬ w2.heap.size = Bp := by omega
    have n3 : ¬ w.heap.size + 1 = w2.heap.size := by omega
    have n4 : ¬ w2.heap.size = w.heap.size + 1 := by omega
    clear i1 i2 i3 i4 RBS hvs
    by_cases q1 : xh ≤ x
    · rw [if_pos q1] at hst
      by_cases q2 : xl ≤ x
      · rw [if_pos q2] at hst
        have HT := Lib.hid hst
        clear hst
        gi_wp2
        obtain ⟨e1, e2, e3⟩ := HR.out.set4 HRR.out (.int .i64 xu)
        obtain ⟨g1, g2, g3⟩ := e3.set5 HRR.out (.int .i64 xu)
        exact ⟨(e1.trans g1).from _, e2.trans g2, ⟨⟨⟨⟨by rw [HT.out]; exact g3.k4, by rw [HT.out]; exact g3.k5⟩, g3.k3⟩, g3.bel⟩, by first | exact g3.sz | (rw [← hz0]; exact g3.sz)⟩⟩
      · rw [if_neg q2] at hst
        have HT := Lib.hid hst
        clear hst
        gi_wp2
        obtain ⟨e1, e2, e3⟩ := HR.out.set4 HRR.out (.int .i64 xu)
        exact ⟨e1.from _, e2, ⟨⟨⟨⟨by rw [HT.out]; exact e3.k4, by rw [HT.out]; exact e3.k5⟩, e3.k3⟩, e3.bel⟩, by first | exact e3.sz | (rw [← hz0]; exact e3.sz)⟩⟩
    · rw [if_neg q1] at hst
      by_cases q2 : xl ≤ x
      · rw [if_pos q2] at hst
        have HT := Lib.hid hst
        clear hst
        gi_wp2
        obtain ⟨g1, g2, g3⟩ := HR.out.set5 HRR.out (.int .i64 xu)
        exact ⟨g1.from _, g2, ⟨⟨⟨⟨by rw [HT.out]; exact g3.k4, by rw [HT.out]; exact g3.k5⟩, g3.k3⟩, g3.bel⟩, by first | exact g3.sz | (rw [← hz0]; exact g3.sz)⟩⟩
      · rw [if_neg q2] at hst
        have HT := Lib.hid hst
        clear hst
        gi_wp2
        have e3 := HR.out
        exact ⟨KeepsFrom.refl _ _, KK.refl _ _ _, ⟨⟨⟨⟨by rw [HT.out]; exact e3.k4, by rw [HT.out]; exact e3.k5⟩, e3.k3⟩, e3.bel⟩, by first | exact e3.sz | (rw [← hz0]; exact e3.sz)⟩⟩
  case done =>
    rintro D zs W hD hzs ⟨⟨⟨⟨i1, i2⟩, i3⟩, i4⟩, i5⟩ hK
    rw [hzs, HE.out] at i1 i2
    have hcs := i1.cell
    have hct := i2.cell
    have hK2 : W.drew.heap[D]? = some (.deferred (some [])) := hK
    have HB := Lib.hid ((bel_drew i4).trans (belowK_b (w := w) (Nat.le_refl _) W.drew D _ (.deferred none) (by omega) hK2 rfl rfl))
    clear i1 i2 i3 i4
    gi_wp2
    apply region_one
    case hr => intro h; gi_region_o; all_goals exact h
    gi_wp2
    refine ⟨by simp, .inl ⟨_, _, rfl, run_takeDeferred hK2, ?_⟩⟩
    refine ⟨.tuple #[.int .i64 q1, .int .i64 q2, .int .i64 0], by simp [results, Try.f31, go_sem], ?_⟩
    exact ⟨rfl, HB.out⟩
  case stop =>
    rintro D c pre W hD hS h hK
    exact h.elim
end Go.Proofs.Ytffnopdpndpngaa.Lh
