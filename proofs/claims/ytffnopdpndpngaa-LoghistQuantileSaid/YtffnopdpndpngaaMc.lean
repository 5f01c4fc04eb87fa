/- Layer 12: the program's sums. -/
import Derived.Test.YtffnopdpndpngaaMb
set_option linter.unusedVariables false
set_option linter.unusedSimpArgs false
namespace Go.Proofs.Ytffnopdpndpngaa.Lh
open Go.RowKit Go.Shelf
attribute [local go_sem] Oper.semAt_some
def lterm (c : Int) (x : It) : Int := (if x.2.2.2 = c then x.1 - 1 else x.1) * x.2.1
def gterm (x : It) : Int := (if x.2.2.2 = x.1 then x.1 - 1 else x.1) * x.2.2.1
def lsum (c : Int) (l : List It) : Int := (l.map (lterm c)).sum
def gsum (l : List It) : Int := (l.map gterm).sum
theorem lsum_snoc (c : Int) (l : List It) (x : It) : lsum c (l ++ [x]) = lsum c l + lterm c x := by unfold lsum; simp
theorem gsum_snoc (l : List It) (x : It) : gsum (l ++ [x]) = gsum l + gterm x := by unfold gsum; simp
def Rg (x : It) : Prop := 1 ≤ x.1 ∧ x.1 ≤ 1048576
theorem wrap_add (a b : Int) : wrap64 (wrap64 a + wrap64 b) = wrap64 (a + b) := by unfold wrap64; omega
theorem wrap_in {a : Int} (h : -9223372036854775808 ≤ a ∧ a ≤ 9223372036854775807) : wrap64 a = a := by unfold wrap64; omega
/-- Two boxes beside a histogram's. -/
structure Start (w W : World) (h b4 b5 : Nat) (p cc ss mn mx : Int) (A : Option Addr) (n c : Nat) (v4 v5 : Int) : Prop where
  k4 : Boxed W b4 3 (.int .i64 v4)
  k5 : Boxed W b5 3 (.int .i64 v5)
  hist : W.heap[h]? = some (.cells #[.int .i64 p, .int .i64 cc, .int .i64 ss, .int .i64 mn, .int .i64 mx, .slice A n c] 29 (0, 0))
  bel : Below w.heap.size w W
  ne : b4 ≠ b5
  g4 : w.heap.size ≤ b4
  g5 : w.heap.size ≤ b5
  n4 : h ≠ b4
  n5 : h ≠ b5
  hh : h < W.heap.size
theorem hist_cells {W : World} {h : Nat} {p cc ss mn mx : Int} {A : Option Addr} {n c : Nat} {t : TypeId} (e : W.heap[h]? = some (.cells #[.int .i64 p, .int .i64 cc, .int .i64 ss, .int .i64 mn, .int .i64 mx, .slice A n c] t (0, 0))) : HC W h p cc ss mn mx A n c := by
  refine ⟨?_, ?_, ?_, ?_, ?_, ?_⟩ <;> simp [World.cell?, e]
theorem boxed_drew {W : World} {b : Nat} {t : TypeId} {v : Value} (h : Boxed W b t v) : Boxed W.drew b t v := h
theorem start_one (w : World) (p cc ss mn mx : Int) (A : Option Addr) (n c : Nat) (v4 v5 : Int) :
    Start w (((w.alloc (.cells #[.int .i64 p, .int .i64 cc, .int .i64 ss, .int .i64 mn, .int .i64 mx, .slice A n c] 29)).alloc (.cells #[.int .i64 v4] 3)).alloc (.cells #[.int .i64 v5] 3)).drew w.heap.size (w.heap.size + 1) (w.heap.size + 1 + 1) p cc ss mn mx A n c v4 v5 := by
  have hc := heap_alloc_new w (.cells #[.int .i64 p, .int .i64 cc, .int .i64 ss, .int .i64 mn, .int .i64 mx, .slice A n c] 29)
  have k4 := Boxed.new (w.alloc (.cells #[.int .i64 p, .int .i64 cc, .int .i64 ss, .int .i64 mn, .int .i64 mx, .slice A n c] 29)) 3 (.int .i64 v4)
  have k5 := Boxed.new ((w.alloc (.cells #[.int .i64 p, .int .i64 cc, .int .i64 ss, .int .i64 mn, .int .i64 mx, .slice A n c] 29)).alloc (.cells #[.int .i64 v4] 3)) 3 (.int .i64 v5)
  have B1 : Below (w.heap.size + 1) (w.alloc (.cells #[.int .i64 p, .int .i64 cc, .int .i64 ss, .int .i64 mn, .int .i64 mx, .slice A n c] 29)) (((w.alloc (.cells #[.int .i64 p, .int .i64 cc, .int .i64 ss, .int .i64 mn, .int .i64 mx, .slice A n c] 29)).alloc (.cells #[.int .i64 v4] 3)).alloc (.cells #[.int .i64 v5] 3)).drew := bel_drew (((Below.refl _ _).alloc (by simp) _).alloc (by simp) _)
  refine ⟨boxed_drew ?_, boxed_drew ?_, (B1.block w.heap.size (Nat.lt_succ_self _)).trans hc, bel_drew ((((Below.refl _ w).alloc (Nat.le_refl _) _).alloc (by simp) _).alloc (by simp; omega) _), by omega, by omega, by omega, by omega, by omega, by simp; omega⟩
  · have h := k4.alloc (.cells #[.int .i64 v5] 3)
    simpa only [World.size_alloc] using h
  · simpa only [World.size_alloc] using k5
theorem Start.swap {w W : World} {h b4 b5 : Nat} {p cc ss mn mx : Int} {A : Option Addr} {n c : Nat} {v4 v5 : Int} (s : Start w W h b4 b5 p cc ss mn mx A n c v4 v5) : Start w W h b5 b4 p cc ss mn mx A n c v5 v4 :=
  ⟨s.k5, s.k4, s.hist, s.bel, s.ne.symm, s.g5, s.g4, s.n5, s.n4, s.hh⟩
theorem two_cells {X Y : Nat} {v u : Value} {W : World} {t1 t2 : TypeId} (h1 : Boxed W X t1 v) (h2 : Boxed W Y t2 u) (hne : X ≠ Y) (v' u' : Value) : Boxed ((W.setCell ⟨X, 0, none⟩ v').setCell ⟨Y, 0, none⟩ u') X t1 v' ∧ Boxed ((W.setCell ⟨X, 0, none⟩ v').setCell ⟨Y, 0, none⟩ u') Y t2 u' :=
  ⟨(h1.set v').other hne _, (h2.other (Ne.symm hne) _).set u'⟩
theorem heap_set_other {W : World} {b h o : Nat} {v : Value} (hn : h ≠ b) : (W.setCell ⟨b, o, none⟩ v).heap[h]? = W.heap[h]? := by simp [World.setCell, Array.getElem?_modify, Ne.symm hn]
theorem keeps_drew {A B : World} (h : KeepsOthers A B) : KeepsOthers A B.drew := ⟨h.1, h.2⟩
/-- A body that writes its two boxes. -/
theorem two_set {w W : World} {b1 b2 b4 b5 h N : Nat} {v4 v5 : Value} {t4 t5 : TypeId} {o : Obj} (k4 : Boxed W b4 t4 v4) (k5 : Boxed W b5 t5 v5) (ne : b4 ≠ b5) (h14 : b1 ≠ b4) (h15 : b1 ≠ b5) (h24 : b2 ≠ b4) (h25 : b2 ≠ b5)
    (hr : W.heap[h]? = some o) (n4 : h ≠ b4) (n5 : h ≠ b5) (hb : Below w.heap.size w W) (g4 : w.heap.size ≤ b4) (g5 : w.heap.size ≤ b5) (hN : N ≤ W.heap.size) (x y : Value) :
    KeepsOthers W ((W.setCell ⟨b4, 0, none⟩ x).setCell ⟨b5, 0, none⟩ y).drew ∧ KK b1 b2 W ((W.setCell ⟨b4, 0, none⟩ x).setCell ⟨b5, 0, none⟩ y).drew ∧
    (((Boxed ((W.setCell ⟨b4, 0, none⟩ x).setCell ⟨b5, 0, none⟩ y).drew b4 t4 x ∧ Boxed ((W.setCell ⟨b4, 0, none⟩ x).setCell ⟨b5, 0, none⟩ y).drew b5 t5 y) ∧ ((W.setCell ⟨b4, 0, none⟩ x).setCell ⟨b5, 0, none⟩ y).drew.heap[h]? = some o) ∧ Below w.heap.size w ((W.setCell ⟨b4, 0, none⟩ x).setCell ⟨b5, 0, none⟩ y).drew) ∧ N ≤ ((W.setCell ⟨b4, 0, none⟩ x).setCell ⟨b5, 0, none⟩ y).drew.heap.size :=
  have T := two_cells k4 k5 ne x y
  have K : KK b1 b2 W ((W.setCell ⟨b4, 0, none⟩ x).setCell ⟨b5, 0, none⟩ y) := (KK.set h14 h24).trans (KK.set h15 h25)
  have R : ((W.setCell ⟨b4, 0, none⟩ x).setCell ⟨b5, 0, none⟩ y).heap[h]? = some o := ((heap_set_other n5).trans (heap_set_other n4)).trans hr
  ⟨keeps_drew ((KeepsOthers.setCell _ _ _).trans (KeepsOthers.setCell _ _ _)), K, ⟨⟨⟨boxed_drew T.1, boxed_drew T.2⟩, R⟩, bel_drew ((hb.setCell (p := ⟨b4, 0, none⟩) g4 _).setCell (p := ⟨b5, 0, none⟩) g5 _)⟩, by simp; omega⟩
/-- A region that ends in one way alone, in whatever order it goes: its end is proved once. -/
theorem region_one {F : Fence} {n : Nat} {P : Program} {c : Code} {Q : Exit → Act → World → Prop} {a a' : Act} {W : World} (h : Q Exit.normal a' W.drew) (hr : Q Exit.normal a' W.drew → Code.wpIn F n P c Q a W) : Code.wpIn F n P c Q a W := hr h
/-- A region that makes two boxes, in whatever order. -/
theorem region_two {F : Fence} {n : Nat} {P : Program} {c : Code} {Q : Exit → Act → World → Prop} {a : Act} {W : World} (Φ : Nat → Nat → World → Prop) (a' : Nat → Nat → Act) (h : ∀ x y V, Φ x y V → Q Exit.normal (a' x y) V)
    (hr : (∀ x y V, Φ x y V → Q Exit.normal (a' x y) V) → Code.wpIn F n P c Q a W) : Code.wpIn F n P c Q a W := hr h
set_option maxRecDepth 100000 in
set_option maxHeartbeats 4000000 in
theorem sums_any (p cc ss mn mx : Int) (l : List B) (hl : l.length ≤ 500) (hp : 0 ≤ p ∧ p ≤ 8) (hr : ∀ x ∈ l, 0 ≤ x.1 ∧ x.1 ≤ topI p) (hpos : Pos l) (ht : tot l ≤ 1048576) (hR : ∀ q ∈ its p mn mx 0 l, Rg q)
    (hmn : inI mn) (hmx : inI mx) (A : Option Addr) (c : Nat) (w : World) (hA : LS w w.heap.size A l) :
    Calls Try.prog 67 #[hV p cc ss mn mx A l.length c] w fun e w' => e = .returned (.tuple #[.int .i64 (wrap64 (mx + lsum cc (its p mn mx 0 l))), .int .i64 (wrap64 (mn + gsum (its p mn mx 0 l)))]) ∧ Below w.heap.size w w' := by
  have hmix : Try.prog.follows .mixedOrders = true := by kernel_rfl
  have hwx : wrap64 mx = mx := wrap_in (by unfold inI at hmx; omega)
  have hwn : wrap64 mn = mn := wrap_in (by unfold inI at hmn; omega)
  have HWX := Lib.hid hwx
  have HWN := Lib.hid hwn
  have HF1 := Lib.hid (start_one w p cc ss mn mx A l.length c mx mn)
  have HF2 := Lib.hid (start_one w p cc ss mn mx A l.length c mn mx).swap
  clear hwx hwn
  refine (callsIn_wide (n := 6)).1 ?_
  refine callsIn_of_wp_marks Try.func67 rfl trivial ?_ rfl
  simp only [Try.ntmps67, List.size_toArray, List.length_cons, List.length_nil, Nat.reduceAdd, Nat.reduceSub, Array.replicate_succ, Array.replicate_zero, List.push_toArray, List.append_toArray, List.nil_append, List.cons_append]
  gi_wp2
  refine region_two (fun x y V => Start w V w.heap.size x y p cc ss mn mx A l.length c mx mn) (fun x y => { tmps := #[hV p cc ss mn mx A l.length c, .pointer (some ⟨w.heap.size, 0, none⟩), .int .i64 0, .int .i64 0, .pointer (some ⟨x, 0, none⟩), .pointer (some ⟨y, 0, none⟩), undef, undef, undef, undef, .pointer (some ⟨w.heap.size, 4, none⟩), .int .i64 mx, .pointer (some ⟨w.heap.size, 3, none⟩), .int .i64 mn, undef, undef, undef, undef, undef, undef, undef, undef, undef, undef, undef, undef, undef, undef, undef, undef, undef, undef, undef, undef, undef, undef, undef, undef, undef, undef, undef, undef, undef, undef, undef, undef, undef, undef], defers := [] }) ?main (fun h => ?reg)
  case reg =>
    gi_region_o
    all_goals (first | exact h _ _ _ HF1.out | exact h _ _ _ HF2.out)
  case main =>
    rintro b4 b5 V F
    clear HF1 HF2
    obtain ⟨g0, g1, g2, g3, g4, g5⟩ := hist_cells F.hist
    gi_wp2_with fail
    refine ⟨trivial, ?_⟩
    refine (asc_in _ p cc ss mn mx A l.length c _).mono ?_
    rintro e w' ⟨rfl, rfl⟩
    clear g0 g1 g2 g3 g4 g5
    gi_wp2_with fail
    have hs1 := F.bel.size
    have k4 := F.k4.alloc (.cells #[.int .i64 p, .int .i64 cc, .int .i64 ss, .int .i64 mn, .int .i64 mx, .slice A l.length c] 29)
    have k5 := F.k5.alloc (.cells #[.int .i64 p, .int .i64 cc, .int .i64 ss, .int .i64 mn, .int .i64 mx, .slice A l.length c] 29)
    have hrow := (Below.heap_alloc V (.cells #[.int .i64 p, .int .i64 cc, .int .i64 ss, .int .i64 mn, .int .i64 mx, .slice A l.length c] 29) _ F.hh).trans F.hist
    have hbl := HC.new V 29 p cc ss mn mx A l.length c
    have hB0 := F.bel.alloc hs1 (.cells #[.int .i64 p, .int .i64 cc, .int .i64 ss, .int .i64 mn, .int .i64 mx, .slice A l.length c] 29)
    have hz0 : (V.alloc (.cells #[.int .i64 p, .int .i64 cc, .int .i64 ss, .int .i64 mn, .int .i64 mx, .slice A l.length c] 29)).heap.size = V.heap.size + 1 := by simp only [World.size_alloc]
    generalize (V.alloc (.cells #[.int .i64 p, .int .i64 cc, .int .i64 ss, .int .i64 mn, .int .i64 mx, .slice A l.length c] 29)) = W0 at *
    obtain ⟨b1, o, hL, hlt1, hor⟩ := liesH_new p cc ss mn mx l A c w W0 V.heap.size hA hB0 hbl (by omega)
    have hl4 := F.k4.lt
    have hl5 := F.k5.lt
    have hg4 := F.g4
    have hg5 := F.g5
    have hn4 := F.n4
    have hn5 := F.n5
    have hne := F.ne
    have hhh := F.hh
    have h14 : b1 ≠ b4 := by omega
    have h15 : b1 ≠ b5 := by omega
    have h24 : V.heap.size ≠ b4 := by omega
    have h25 : V.heap.size ≠ b5 := by omega
    have ST := Lib.hid (asc_stops Rg 5 (by omega) b1 V.heap.size o c p cc ss mn mx A l hl hp hr hpos ht hR W0 hlt1 (by omega) hL)
    clear hL hbl hA hr hpos ht hR F
    refine wpIn_rangeFunc_ownH rfl (by omega) (gf := 80) (lb := #[.pointer (some ⟨V.heap.size, 0, none⟩)]) rfl trivial (enters_of Try.func80 (by kernel_rfl) rfl)
      ST.out (fun h k => h.trans k) (fun W lq oq oq' hlq hq hc hw => KK.put (by omega) (by omega)) (Below.refl _ _) (fun _ => rfl)
      (fun pre W => (((Boxed W b4 3 (.int .i64 (wrap64 (mx + lsum cc (valQ pre)))) ∧ Boxed W b5 3 (.int .i64 (wrap64 (mn + gsum (valQ pre))))) ∧ W.heap[w.heap.size]? = some (.cells #[.int .i64 p, .int .i64 cc, .int .i64 ss, .int .i64 mn, .int .i64 mx, .slice A l.length c] 29 (0, 0))) ∧ Below w.heap.size w W) ∧ W0.heap.size ≤ W.heap.size)
      (fun _ _ _ => False)
      (OwnFrom.and (OwnFrom.and (OwnFrom.and (OwnFrom.and (Own.from (boxed_own _ _ (fun (pre : List (QE Rg)) => _)) _) (Own.from (boxed_own _ _ (fun (pre : List (QE Rg)) => _)) _)) (Own.from (row_own _ _ (fun (pre : List (QE Rg)) => _)) _)) (ownFrom_below (by omega) (by omega))) (fun s X Y row h hg hr => Nat.le_trans h hg.size))
      (fun c s A B row h hg hr => h)
      ⟨⟨⟨⟨by simpa [lsum, valQ, HWX.out] using k4, by simpa [gsum, valQ, HWN.out] using k5⟩, hrow⟩, hB0⟩, Nat.le_refl _⟩
      (fun x a' W => ∃ Bp, V.heap.size < Bp ∧ W.heap[Bp]? = some (.cells #[.int .i64 x.1.1, .int .i64 x.1.2.1, .int .i64 x.1.2.2.1] 79 (0, 0)) ∧ a' = { tmps := #[hV p cc ss mn mx A l.length c, .pointer (some ⟨w.heap.size, 0, none⟩), .int .i64 0, .int .i64 0, .pointer (some ⟨b4, 0, none⟩), .pointer (some ⟨b5, 0, none⟩), .pointer (some ⟨Bp, 0, none⟩), .int .i64 x.1.2.2.2, undef, undef, .pointer (some ⟨w.heap.size, 4, none⟩), .int .i64 mx, .pointer (some ⟨w.heap.size, 3, none⟩), .int .i64 mn, hV p cc ss mn mx A l.length c, .func (.func 80) #[] #[.pointer (some ⟨V.heap.size, 0, none⟩)], .agg #[.int .i64 x.1.1, .int .i64 x.1.2.1, .int .i64 x.1.2.2.1], .int .i64 x.1.2.2.2, undef, undef, undef, undef, undef, undef, undef, undef, undef, undef, undef, undef, undef, undef, undef, undef, undef, undef, undef, undef, undef, undef, undef, undef, undef, undef, undef, undef, undef, undef], defers := [] })
      (fun x a' _ A B row hs hg hr => by
        obtain ⟨Bp, i1, i2, i3⟩ := hs
        exact ⟨Bp, i1, row_own (β := Unit) Bp _ (fun _ => _) () A B row i2 hg (fun r e => (hr r e).2), i3⟩)
      ?assign ?body ?done ?stop
    case assign =>
      rintro lc pre x W K ⟨⟨⟨⟨i1, i2⟩, i3⟩, i4⟩, i5⟩ hK
      have hle := i4.size
      gi_wp2
      refine hK _ _ ((KeepsOthers.alloc _ _).from _) (KK.al _ (by omega) (by omega)) ⟨⟨⟨⟨i1.alloc _, i2.alloc _⟩, (Below.heap_alloc _ _ _ (by omega)).trans i3⟩, i4.alloc hle _⟩, by simp; omega⟩ ⟨W.heap.size, by omega, heap_alloc_new _ _, rfl⟩
    case body =>
      rintro lc pre x a' W hlc _ ⟨⟨⟨⟨i1, i2⟩, i3⟩, i4⟩, i5⟩ ⟨Bp, j1, j2, rfl⟩ hlt
      have hls := lsum_snoc cc (valQ pre) x.1
      have hgs := gsum_snoc (valQ pre) x.1
      rw [← valQ_snoc] at hls hgs
      obtain ⟨⟨xc, xl, xh, xu⟩, hx⟩ := x
      have hx2 : 1 ≤ xc ∧ xc ≤ 1048576 := hx
      unfold lterm at hls
      unfold gterm at hgs
      dsimp only at hls hgs j2 ⊢
      generalize lsum cc (valQ pre) = S1 at *
      generalize gsum (valQ pre) = S2 at *
      obtain ⟨p0, p1, p2⟩ := cells3' j2
      have hc1 := (hist_cells i3).2.1
      have hcs := i1.cell
      have hfs := i1.frozen
      have hct := i2.cell
      have hft := i2.frozen
      have hle := i4.size
      have hnp : Bp ≠ b4 := by omega
      have hnq : Bp ≠ b5 := by omega
      have hw1 : wrap64 (xc - 1) = xc - 1 := wrap_in (by omega)
      have TS := Lib.hid (fun x y => two_set (b1 := b1) (b2 := V.heap.size) i1 i2 hne h14 h15 h24 h25 i3 hn4 hn5 i4 hg4 hg5 i5 x y)
      by_cases q1 : xu = cc
      · rw [if_pos q1] at hls
        have q1' : (xu == cc) = true := by simp [q1]
        by_cases q2 : xu = xc
        · rw [if_pos q2] at hgs
          have q2' : (xu == xc) = true := by simp [q2]
          have HLS : Hid (wrap64 (mx + lsum cc (valQ (pre ++ [⟨(xc, xl, xh, xu), hx⟩]))) = wrap64 (wrap64 (mx + S1) + wrap64 ((xc - 1) * xl))) := Lib.hid (by rw [wrap_add, hls, Int.add_assoc])
          have HGS : Hid (wrap64 (mn + gsum (valQ (pre ++ [⟨(xc, xl, xh, xu), hx⟩]))) = wrap64 (wrap64 (mn + S2) + wrap64 ((xc - 1) * xh))) := Lib.hid (by rw [wrap_add, hgs, Int.add_assoc])
          clear hls hgs q1 q2
          gi_wp2
          apply region_one
          case hr => intro h; gi_region_o; all_goals exact h
          gi_wp2
          obtain ⟨e1, e2, ⟨⟨⟨e3, e4⟩, e5⟩, e6⟩, e7⟩ := TS.out (.int .i64 (wrap64 (wrap64 (mx + S1) + wrap64 ((xc - 1) * xl)))) (.int .i64 (wrap64 (wrap64 (mn + S2) + wrap64 ((xc - 1) * xh))))
          refine ⟨e1.from _, e2, ⟨⟨⟨?_, ?_⟩, e5⟩, e6⟩, e7⟩
          · rw [HLS.out]; exact e3
          · rw [HGS.out]; exact e4
        · rw [if_neg q2] at hgs
          have q2' : (xu == xc) = false := by simp [q2]
          have HLS : Hid (wrap64 (mx + lsum cc (valQ (pre ++ [⟨(xc, xl, xh, xu), hx⟩]))) = wrap64 (wrap64 (mx + S1) + wrap64 ((xc - 1) * xl))) := Lib.hid (by rw [wrap_add, hls, Int.add_assoc])
          have HGS : Hid (wrap64 (mn + gsum (valQ (pre ++ [⟨(xc, xl, xh, xu), hx⟩]))) = wrap64 (wrap64 (mn + S2) + wrap64 (xc * xh))) := Lib.hid (by rw [wrap_add, hgs, Int.add_assoc])
          clear hls hgs q1 q2
          gi_wp2
          apply region_one
          case hr => intro h; gi_region_o; all_goals exact h
          gi_wp2
          obtain ⟨e1, e2, ⟨⟨⟨e3, e4⟩, e5⟩, e6⟩, e7⟩ := TS.out (.int .i64 (wrap64 (wrap64 (mx + S1) + wrap64 ((xc - 1) * xl)))) (.int .i64 (wrap64 (wrap64 (mn + S2) + wrap64 (xc * xh))))
          refine ⟨e1.from _, e2, ⟨⟨⟨?_, ?_⟩, e5⟩, e6⟩, e7⟩
          · rw [HLS.out]; exact e3
          · rw [HGS.out]; exact e4
      · rw [if_neg q1] at hls
        have q1' : (xu == cc) = false := by simp [q1]
        by_cases q2 : xu = xc
        · rw [if_pos q2] at hgs
          have q2' : (xu == xc) = true := by simp [q2]
          have HLS : Hid (wrap64 (mx + lsum cc (valQ (pre ++ [⟨(xc, xl, xh, xu), hx⟩]))) = wrap64 (wrap64 (mx + S1) + wrap64 (xc * xl))) := Lib.hid (by rw [wrap_add, hls, Int.add_assoc])
          have HGS : Hid (wrap64 (mn + gsum (valQ (pre ++ [⟨(xc, xl, xh, xu), hx⟩]))) = wrap64 (wrap64 (mn + S2) + wrap64 ((xc - 1) * xh))) := Lib.hid (by rw [wrap_add, hgs, Int.add_assoc])
          clear hls hgs q1 q2
          gi_wp2
          apply region_one
          case hr => intro h; gi_region_o; all_goals exact h
          gi_wp2
          obtain ⟨e1, e2, ⟨⟨⟨e3, e4⟩, e5⟩, e6⟩, e7⟩ := TS.out (.int .i64 (wrap64 (wrap64 (mx + S1) + wrap64 (xc * xl)))) (.int .i64 (wrap64 (wrap64 (mn + S2) + wrap64 ((xc - 1) * xh))))
          refine ⟨e1.from _, e2, ⟨⟨⟨?_, ?_⟩, e5⟩, e6⟩, e7⟩
          · rw [HLS.out]; exact e3
          · rw [HGS.out]; exact e4
        · rw [if_neg q2] at hgs
          have q2' : (xu == xc) = false := by simp [q2]
          have HLS : Hid (wrap64 (mx + lsum cc (valQ (pre ++ [⟨(xc, xl, xh, xu), hx⟩]))) = wrap64 (wrap64 (mx + S1) + wrap64 (xc * xl))) := Lib.hid (by rw [wrap_add, hls, Int.add_assoc])
          have HGS : Hid (wrap64 (mn + gsum (valQ (pre ++ [⟨(xc, xl, xh, xu), hx⟩]))) = wrap64 (wrap64 (mn + S2) + wrap64 (xc * xh))) := Lib.hid (by rw [wrap_add, hgs, Int.add_assoc])
          clear hls hgs q1 q2
          gi_wp2
          apply region_one
          case hr => intro h; gi_region_o; all_goals exact h
          gi_wp2
          obtain ⟨e1, e2, ⟨⟨⟨e3, e4⟩, e5⟩, e6⟩, e7⟩ := TS.out (.int .i64 (wrap64 (wrap64 (mx + S1) + wrap64 (xc * xl)))) (.int .i64 (wrap64 (wrap64 (mn + S2) + wrap64 (xc * xh))))
          refine ⟨e1.from _, e2, ⟨⟨⟨?_, ?_⟩, e5⟩, e6⟩, e7⟩
          · rw [HLS.out]; exact e3
          · rw [HGS.out]; exact e4
    case done =>
      rintro D zs W hD hzs ⟨⟨⟨⟨i1, i2⟩, i3⟩, i4⟩, i5⟩ hK
      have hcs := i1.cell
      have hct := i2.cell
      rw [hzs] at hcs hct
      have hK2 : W.drew.heap[D]? = some (.deferred (some [])) := hK
      have HB := Lib.hid ((bel_drew i4).trans (belowK_b (w := w) (Nat.le_refl _) W.drew D _ (.deferred none) (by omega) hK2 rfl rfl))
      clear i1 i2 i3 i4
      gi_wp2
      apply region_one
      case hr => intro h; gi_region_o; all_goals exact h
      gi_wp2
      refine ⟨by simp, .inl ⟨_, _, rfl, run_takeDeferred hK2, ?_⟩⟩
      refine ⟨.tuple #[.int .i64 (wrap64 (mx + lsum cc (its p mn mx 0 l))), .int .i64 (wrap64 (mn + gsum (its p mn mx 0 l)))], by simp [results, Try.f67, go_sem], ?_⟩
      exact ⟨rfl, HB.out⟩
    case stop =>
      rintro D c pre W hD hS h hK
      exact h.elim
end Go.Proofs.Ytffnopdpndpngaa.Lh
