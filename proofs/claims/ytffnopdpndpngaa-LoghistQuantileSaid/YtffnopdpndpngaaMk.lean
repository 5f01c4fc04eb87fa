/- Layer 12: the program's joined. -/
import Derived.Maps.OwnIn
import Derived.Test.YtffnopdpndpngaaMj
import Derived.Test.YtffnopdpndpngaaMl
import Derived.Deep.RegionHeld3
set_option linter.unusedVariables false
set_option linter.unusedSimpArgs false
namespace Go.Proofs.Ytffnopdpndpngaa.Lh
open Go.RowKit Go.Shelf
attribute [local go_sem] Oper.semAt_some
theorem reg_row1 (W : World) (X Y R : Obj) : (((W.alloc X).alloc Y).alloc R).drew.heap[W.heap.size + 1 + 1]? = some R := by
  show (((W.alloc X).alloc Y).alloc R).heap[W.heap.size + 1 + 1]? = some R
  have h := heap_alloc_new ((W.alloc X).alloc Y) R
  simpa only [World.size_alloc] using h
theorem reg_row2 (W : World) (X Y R : Obj) : (((W.alloc R).alloc X).alloc Y).drew.heap[W.heap.size]? = some R :=
  (Below.heap_alloc ((W.alloc R).alloc X) Y W.heap.size (by simp; omega)).trans ((Below.heap_alloc (W.alloc R) X W.heap.size (by simp)).trans (heap_alloc_new W R))
theorem six_heap {Z : World} {r : Nat} {t : TypeId} {o0 o1 o2 o3 o4 o5 : Value} (hr : Z.heap[r]? = some (.cells #[o0, o1, o2, o3, o4, o5] t (0, 0))) (v0 v1 v2 v3 v4 v5 : Value) :
    ((((((Z.setCell ⟨r, 0, none⟩ v0).setCell ⟨r, 1, none⟩ v1).setCell ⟨r, 2, none⟩ v2).setCell ⟨r, 3, none⟩ v3).setCell ⟨r, 4, none⟩ v4).setCell ⟨r, 5, none⟩ v5).heap[r]? = some (.cells #[v0, v1, v2, v3, v4, v5] t (0, 0)) := by
  simp [World.setCell, Array.getElem?_modify, hr]
theorem row_after {wr w1 : World} {h N : Nat} {o0 o1 o2 o3 o4 s : Value} {t tb : TypeId} {l : List B} {ns : Array Value} (hh : wr.heap[h]? = some (.cells #[o0, o1, o2, o3, o4, s] t (0, 0))) (ho : OwnB wr N s l) (hg : (wr.alloc (.cells ns tb)).grownBy w1 s.ownBlock) (hN : h < N) (hw : h < wr.heap.size) :
    w1.heap[h]? = some (.cells #[o0, o1, o2, o3, o4, s] t (0, 0)) ∧ w1.cell? ⟨h, 5, none⟩ = some s ∧ w1.frozen? ⟨h, 5, none⟩ = false := by
  have e : w1.heap[h]? = some (.cells #[o0, o1, o2, o3, o4, s] t (0, 0)) := (hg.block h (by simp; omega) (fun e => by have := (World.ownsRow.lt ho h e.symm).1; omega)).trans ((Below.heap_alloc _ _ _ hw).trans hh)
  exact ⟨e, by simp [World.cell?, e], by simp [World.frozen?, e]⟩
theorem But.set {N b o : Nat} {W X : World} {v : Value} (h : But N b W X) : But N b W (X.setCell ⟨b, o, none⟩ v) :=
  ⟨h.os, h.tape, h.output, by have := h.size; simpa using this, fun k hk hkb => (heap_set_other hkb).trans (h.block k hk hkb)⟩
theorem OwnB.high {W W' : World} {N : Nat} {s : Value} {l : List B} (h : OwnB W N s l) (hk : ∀ q, N ≤ q → W'.heap[q]? = W.heap[q]?) : OwnB W' N s l := by
  refine ⟨h.1, ?_⟩
  rcases h.2 with h0 | ⟨g, cap, cur, e, h1, h2, h3⟩
  · exact .inl h0
  · exact .inr ⟨g, cap, cur, e, h1, (hk g h1).trans h2, h3⟩
theorem OwnB.ge {W : World} {N n c : Nat} {A : Option Addr} {l : List B} (h : OwnB W N (.slice A n c) l) (hne : l ≠ []) : ∃ b o, A = some ⟨b, o, none⟩ ∧ N ≤ b := by
  rcases h.2 with ⟨e, h0⟩ | ⟨g, cap, cur, e, h1, h2⟩
  · exact (hne (List.length_eq_zero_iff.1 h0)).elim
  · injection e with e1
    exact ⟨g, 0, e1, h1⟩
theorem six_other {Z : World} {r k : Nat} (hk : k ≠ r) (v0 v1 v2 v3 v4 v5 : Value) :
    ((((((Z.setCell ⟨r, 0, none⟩ v0).setCell ⟨r, 1, none⟩ v1).setCell ⟨r, 2, none⟩ v2).setCell ⟨r, 3, none⟩ v3).setCell ⟨r, 4, none⟩ v4).setCell ⟨r, 5, none⟩ v5).heap[k]? = Z.heap[k]? := by
  rw [heap_set_other hk, heap_set_other hk, heap_set_other hk, heap_set_other hk, heap_set_other hk, heap_set_other hk]
/-- A struct stored into the result's cells, and the two loops' ends taken. -/
theorem six_end {w Z : World} {r D0 D1 : Nat} {t : TypeId} {o0 o1 o2 o3 o4 o5 : Value} (hr : Z.heap[r]? = some (.cells #[o0, o1, o2, o3, o4, o5] t (0, 0))) (hB : Below w.heap.size w Z) (hg : w.heap.size ≤ r)
    (h0 : Z.heap[D0]? = some (.deferred (some []))) (h1 : Z.heap[D1]? = some (.deferred (some []))) (hne : D0 ≠ D1) (n0 : r ≠ D0) (n1 : r ≠ D1) (g0 : w.heap.size ≤ D0) (g1 : w.heap.size ≤ D1) (v0 v1 v2 v3 v4 v5 : Value) :
    ((((((Z.setCell ⟨r, 0, none⟩ v0).setCell ⟨r, 1, none⟩ v1).setCell ⟨r, 2, none⟩ v2).setCell ⟨r, 3, none⟩ v3).setCell ⟨r, 4, none⟩ v4).setCell ⟨r, 5, none⟩ v5).heap[D1]? = some (.deferred (some [])) ∧
    (((((((Z.setCell ⟨r, 0, none⟩ v0).setCell ⟨r, 1, none⟩ v1).setCell ⟨r, 2, none⟩ v2).setCell ⟨r, 3, none⟩ v3).setCell ⟨r, 4, none⟩ v4).setCell ⟨r, 5, none⟩ v5).putObj D1 (.deferred none)).heap[D0]? = some (.deferred (some [])) ∧
    Below w.heap.size w ((((((((Z.setCell ⟨r, 0, none⟩ v0).setCell ⟨r, 1, none⟩ v1).setCell ⟨r, 2, none⟩ v2).setCell ⟨r, 3, none⟩ v3).setCell ⟨r, 4, none⟩ v4).setCell ⟨r, 5, none⟩ v5).putObj D1 (.deferred none)).putObj D0 (.deferred none)) ∧
    ((((((((Z.setCell ⟨r, 0, none⟩ v0).setCell ⟨r, 1, none⟩ v1).setCell ⟨r, 2, none⟩ v2).setCell ⟨r, 3, none⟩ v3).setCell ⟨r, 4, none⟩ v4).setCell ⟨r, 5, none⟩ v5).putObj D1 (.deferred none)).putObj D0 (.deferred none)).heap[r]? = some (.cells #[v0, v1, v2, v3, v4, v5] t (0, 0)) := by
  have a1 := (six_other (Z := Z) (Ne.symm n1) v0 v1 v2 v3 v4 v5).trans h1
  have a0 := (six_other (Z := Z) (Ne.symm n0) v0 v1 v2 v3 v4 v5).trans h0
  have ar := six_heap hr v0 v1 v2 v3 v4 v5
  have b := (((((hB.setCell (p := ⟨r, 0, none⟩) hg v0).setCell (p := ⟨r, 1, none⟩) hg v1).setCell (p := ⟨r, 2, none⟩) hg v2).setCell (p := ⟨r, 3, none⟩) hg v3).setCell (p := ⟨r, 4, none⟩) hg v4).setCell (p := ⟨r, 5, none⟩) hg v5
  generalize (((((Z.setCell ⟨r, 0, none⟩ v0).setCell ⟨r, 1, none⟩ v1).setCell ⟨r, 2, none⟩ v2).setCell ⟨r, 3, none⟩ v3).setCell ⟨r, 4, none⟩ v4).setCell ⟨r, 5, none⟩ v5 = V at *
  have c0 : (V.putObj D1 (.deferred none)).heap[D0]? = some (.deferred (some [])) := (World.putObj_heap_other hne).trans a0
  exact ⟨a1, c0, (b.trans (belowK_b (w := w) (Nat.le_refl _) V D1 _ _ g1 a1 rfl rfl)).trans (belowK_b (w := w) (Nat.le_refl _) _ D0 _ _ g0 c0 rfl rfl), (World.putObj_heap_other n0).trans ((World.putObj_heap_other n1).trans ar)⟩
set_option maxRecDepth 100000 in
set_option maxHeartbeats 4000000 in
theorem joined_any (x y : H) (ox : Ok x) (oy : Ok y) (ix1 : inI x.s) (iy1 : inI y.s) (is : inI (x.s + y.s)) (A1 A2 : Option Addr) (c1 c2 : Nat) (w : World) (hA : LS w w.heap.size A1 x.bs) (hB : LS w w.heap.size A2 y.bs) :
    Calls Try.prog 42 #[hV x.p x.c x.s x.mn x.mx A1 x.bs.length c1, hV y.p y.c y.s y.mn y.mx A2 y.bs.length c2] w (HOut w (limH (joinH x y))) := by
  have hmix : Try.prog.follows .mixedOrders = true := by kernel_rfl
  have RJ1 := its_rj ox
  have RJ2 := its_rj oy
  have len1 := ox.len
  have len2 := oy.len
  have tt1 := ox.tot
  have tt2 := oy.tot
  have cc1 := ox.count
  have cc2 := oy.count
  have pp1 := tot_nonneg ox.pos
  have pp2 := tot_nonneg oy.pos
  have hk : inI (x.c + y.c) := by unfold inI; omega
  clear cc1 cc2 pp1 pp2
  have hP : 0 ≤ min x.p y.p ∧ min x.p y.p ≤ 8 := by have := ox.p0; have := oy.p0; have := ox.p8; have := oy.p8; omega
  obtain ⟨J, hJ⟩ : ∃ J, J = joinH x y := ⟨_, rfl⟩
  have HJ1 : Hid (J.p = min x.p y.p ∧ J.c = x.c + y.c ∧ J.s = x.s + y.s ∧ J.mn = lstO x y ∧ J.mx = max x.mx y.mx ∧ J.bs = jb x y) := by rw [hJ]; exact ⟨rfl, rfl, rfl, rfl, rfl, rfl⟩
  rw [← hJ]
  clear hJ
  unfold lstO jb at HJ1
  obtain ⟨p1, k1, s1, n1, m1, l1⟩ := x
  obtain ⟨p2, k2, s2, n2, m2, l2⟩ := y
  dsimp only at *
  have LO := leastOf_any p1 k1 s1 n1 m1 p2 k2 s2 n2 m2 A1 A2 l1.length c1 l2.length c2
  obtain ⟨z, hz⟩ : ∃ z, z = if k1 = 0 then n2 else if k2 = 0 then n1 else min n1 n2 := ⟨_, rfl⟩
  rw [← hz] at LO HJ1
  have HLO := Lib.hid LO
  have HK := Lib.hid hk
  have HS := Lib.hid is
  clear LO hz is hk
  refine (callsIn_wide (n := 6)).1 ?_
  refine callsIn_of_wp_marks Try.func42 rfl trivial ?_ rfl
  simp only [Try.ntmps42, List.size_toArray, List.length_cons, List.length_nil, Nat.reduceAdd, Nat.reduceSub, Array.replicate_succ, Array.replicate_zero, List.push_toArray, List.append_toArray, List.nil_append, List.cons_append]
  gi_wp2
  generalize hj1 : l1.length = j1 at *
  generalize hj2 : l2.length = j2 at *
  obtain ⟨W1, hW1⟩ : ∃ W1, W1 = (((w.alloc (.cells #[.int .i64 p1, .int .i64 k1, .int .i64 s1, .int .i64 n1, .int .i64 m1, .slice A1 j1 c1] 29)).alloc (.cells #[.int .i64 p2, .int .i64 k2, .int .i64 s2, .int .i64 n2, .int .i64 m2, .slice A2 j2 c2] 29)).alloc (.cells #[.int .i64 0, .int .i64 0, .int .i64 0, .int .i64 0, .int .i64 0, .slice none 0 0] 29)) := ⟨_, rfl⟩
  have SA := Lib.hid (fun V (h : Below (w.heap.size + 3) W1 V) => sj_all (V := V) hW1 h)
  have hsz : W1.heap.size = w.heap.size + 3 := by rw [hW1]; simp
  have KR : Hid (W1.heap[w.heap.size + 1 + 1]? = some (.cells #[.int .i64 0, .int .i64 0, .int .i64 0, .int .i64 0, .int .i64 0, .slice none 0 0] 29 (0, 0))) := by
    show _ = _
    rw [hW1]
    have h := heap_alloc_new ((w.alloc (.cells #[.int .i64 p1, .int .i64 k1, .int .i64 s1, .int .i64 n1, .int .i64 m1, .slice A1 j1 c1] 29)).alloc (.cells #[.int .i64 p2, .int .i64 k2, .int .i64 s2, .int .i64 n2, .int .i64 m2, .slice A2 j2 c2] 29)) (.cells #[.int .i64 0, .int .i64 0, .int .i64 0, .int .i64 0, .int .i64 0, .slice none 0 0] 29)
    simpa only [World.size_alloc] using h
  have BW : Hid (Below w.heap.size w W1) := by show Below _ _ _; rw [hW1]; exact (((Below.refl _ w).alloc (Nat.le_refl _) _).alloc (by simp) _).alloc (by simp; omega) _
  have SL : Hid (∀ V, Below (w.heap.size + 3) W1 V → w.heap.size + 3 ≤ V.heap.size) := Lib.hid fun V h => by have := h.size; omega
  have HA : Hid (∀ V o, Below (w.heap.size + 3) W1 V → Below (w.heap.size + 3) W1 (V.alloc o)) := Lib.hid fun V o h => h.alloc (SL.out V h) o
  rw [← hW1]
  have h0 := SA.out W1 (Below.refl _ _)
  have HSW : Hid (W1.heap.size = w.heap.size + 3) := hsz
  clear hsz hW1
  refine region_law (fun x V => V.heap[x]? = some (.cells #[.int .i64 (min p1 p2), .int .i64 (IntKind.i64.wrap (k1 + k2)), .int .i64 (IntKind.i64.wrap (s1 + s2)), .int .i64 z, .int .i64 (max m1 m2), .slice none 0 0] 29 (0, 0)) ∧ Below (w.heap.size + 3) W1 V ∧ w.heap.size + 3 ≤ x ∧ x < V.heap.size) (fun x => { tmps := #[hV p1 k1 s1 n1 m1 A1 j1 c1, hV p2 k2 s2 n2 m2 A2 j2 c2, .pointer (some ⟨w.heap.size, 0, none⟩), .pointer (some ⟨w.heap.size + 1, 0, none⟩), .pointer (some ⟨w.heap.size + 1 + 1, 0, none⟩), .int .i64 0, .pointer (some ⟨x, 0, none⟩), undef, undef, undef, undef, undef, undef, .pointer (some ⟨w.heap.size, 0, none⟩), .int .i64 p1, .pointer (some ⟨w.heap.size + 1, 0, none⟩), .int .i64 p2, .int .i64 (min p1 p2), .pointer (some ⟨w.heap.size, 1, none⟩), .int .i64 k1, .pointer (some ⟨w.heap.size + 1, 1, none⟩), .int .i64 k2, .int .i64 (IntKind.i64.wrap (k1 + k2)), .pointer (some ⟨w.heap.size, 2, none⟩), .int .i64 s1, .pointer (some ⟨w.heap.size + 1, 2, none⟩), .int .i64 s2, .int .i64 (IntKind.i64.wrap (s1 + s2)), hV p1 k1 s1 n1 m1 A1 j1 c1, hV p2 k2 s2 n2 m2 A2 j2 c2, .int .i64 z, .pointer (some ⟨w.heap.size, 4, none⟩), .int .i64 m1, .pointer (some ⟨w.heap.size + 1, 4, none⟩), .int .i64 m2, .int .i64 (max m1 m2), .agg #[.int .i64 (min p1 p2), .int .i64 (IntKind.i64.wrap (k1 + k2)), .int .i64 (IntKind.i64.wrap (s1 + s2)), .int .i64 z, .int .i64 (max m1 m2), .slice none 0 0], undef, undef, undef, undef, undef, undef, undef, undef, undef, undef, undef, undef, undef, undef, undef, undef, undef, undef, undef, undef, undef, undef, undef, undef, undef, undef, undef, undef, undef, undef, undef, undef, undef, undef, undef, undef, undef, undef, undef, undef, undef, undef, undef, undef, undef, undef, undef, undef, undef, undef, undef, undef, undef], defers := [] }) ?main (fun h => ?reg)
  case reg =>
    have HX1 := Lib.hid h
    clear h
    refine wpIn_wide.2 ?_
    go_region_held3 (fun V => V.cell? ⟨w.heap.size, 0, none⟩ = some (.int .i64 p1) ∧ V.cell? ⟨w.heap.size, 1, none⟩ = some (.int .i64 k1) ∧ V.cell? ⟨w.heap.size, 2, none⟩ = some (.int .i64 s1) ∧ V.cell? ⟨w.heap.size, 3, none⟩ = some (.int .i64 n1) ∧ V.cell? ⟨w.heap.size, 4, none⟩ = some (.int .i64 m1) ∧ V.cell? ⟨w.heap.size, 5, none⟩ = some (.slice A1 j1 c1) ∧ V.cell? ⟨w.heap.size + 1, 0, none⟩ = some (.int .i64 p2) ∧ V.cell? ⟨w.heap.size + 1, 1, none⟩ = some (.int .i64 k2) ∧ V.cell? ⟨w.heap.size + 1, 2, none⟩ = some (.int .i64 s2) ∧ V.cell? ⟨w.heap.size + 1, 3, none⟩ = some (.int .i64 n2) ∧ V.cell? ⟨w.heap.size + 1, 4, none⟩ = some (.int .i64 m2) ∧ V.cell? ⟨w.heap.size + 1, 5, none⟩ = some (.slice A2 j2 c2) ∧ Below (w.heap.size + 3) W1 V)
      (with_reducible (refine SA.out _ ?_; repeat (first | exact sj_of (by assumption) | refine bel_drew ?_ | refine HA.out _ _ ?_)))
      (first | (go_at_call 64; refine (HLO.out _).mono ?_; rintro e w5 ⟨rfl, rfl⟩))
    all_goals
      refine HX1.out _ _ ⟨?_, bel_drew (HA.out _ _ (HA.out _ _ (HA.out _ _ (Below.refl _ _)))), ?_, ?_⟩
      · first | exact reg_row1 _ _ _ _ | exact reg_row2 _ _ _ _
      · have := HSW.out; omega
      · first | (simp; done) | (simp; omega)
  case main =>
    rintro h V ⟨hrow, hbel, hx, hxl⟩
    clear h0 HLO
    obtain ⟨x0, x1, x2, x3, x4, x5, y0, y1, y2, y3, y4, y5, -⟩ := SA.out V hbel
    have hmm := @run_makeMap Try.prog
    have hlv := SL.out V hbel
    have hlv0 : w.heap.size < V.heap.size := by omega
    have hlv1 : w.heap.size + 1 < V.heap.size := by omega
    have HHR := Lib.hid hrow
    have HHX := Lib.hid hx
    have HHL := Lib.hid hxl
    clear hrow hx hxl
    gi_wp2_with fail
    clear x0 x1 x2 x3 x4 x5 y0 y1 y2 y3 y4 y5 hmm
    have D0 : Below (w.heap.size + 3) W1 (((V.alloc (.map #[] 0)).alloc (.cells #[.map (some V.heap.size)] 86)).alloc (.cells #[.int .i64 p1, .int .i64 k1, .int .i64 s1, .int .i64 n1, .int .i64 m1, .slice A1 j1 c1, .int .i64 p2, .int .i64 k2, .int .i64 s2, .int .i64 n2, .int .i64 m2, .slice A2 j2 c2] 29)) := HA.out _ _ (HA.out _ _ (HA.out _ _ hbel))
    have cm : CntM (((V.alloc (.map #[] 0)).alloc (.cells #[.map (some V.heap.size)] 86)).alloc (.cells #[.int .i64 p1, .int .i64 k1, .int .i64 s1, .int .i64 n1, .int .i64 m1, .slice A1 j1 c1, .int .i64 p2, .int .i64 k2, .int .i64 s2, .int .i64 n2, .int .i64 m2, .slice A2 j2 c2] 29)) V.heap.size 0 [] := ((CntM.new V).kept (World.grownBy_alloc _ _ none) (by simp)).kept (World.grownBy_alloc _ _ none) (by simp)
    have kt : Boxed (((V.alloc (.map #[] 0)).alloc (.cells #[.map (some V.heap.size)] 86)).alloc (.cells #[.int .i64 p1, .int .i64 k1, .int .i64 s1, .int .i64 n1, .int .i64 m1, .slice A1 j1 c1, .int .i64 p2, .int .i64 k2, .int .i64 s2, .int .i64 n2, .int .i64 m2, .slice A2 j2 c2] 29)) (V.heap.size + 1) 86 (.map (some V.heap.size)) := by
      have h := (Boxed.new (V.alloc (.map #[] 0)) 86 (.map (some V.heap.size))).alloc (.cells #[.int .i64 p1, .int .i64 k1, .int .i64 s1, .int .i64 n1, .int .i64 m1, .slice A1 j1 c1, .int .i64 p2, .int .i64 k2, .int .i64 s2, .int .i64 n2, .int .i64 m2, .slice A2 j2 c2] 29)
      simpa only [World.size_alloc] using h
    have kp : (((V.alloc (.map #[] 0)).alloc (.cells #[.map (some V.heap.size)] 86)).alloc (.cells #[.int .i64 p1, .int .i64 k1, .int .i64 s1, .int .i64 n1, .int .i64 m1, .slice A1 j1 c1, .int .i64 p2, .int .i64 k2, .int .i64 s2, .int .i64 n2, .int .i64 m2, .slice A2 j2 c2] 29)).heap[V.heap.size + 1 + 1]? = some (.cells #[.int .i64 p1, .int .i64 k1, .int .i64 s1, .int .i64 n1, .int .i64 m1, .slice A1 j1 c1, .int .i64 p2, .int .i64 k2, .int .i64 s2, .int .i64 n2, .int .i64 m2, .slice A2 j2 c2] 29 (0, 0)) := by
      have h := heap_alloc_new ((V.alloc (.map #[] 0)).alloc (.cells #[.map (some V.heap.size)] 86)) (.cells #[.int .i64 p1, .int .i64 k1, .int .i64 s1, .int .i64 n1, .int .i64 m1, .slice A1 j1 c1, .int .i64 p2, .int .i64 k2, .int .i64 s2, .int .i64 n2, .int .i64 m2, .slice A2 j2 c2] 29)
      simpa only [World.size_alloc] using h
    have kh : (((V.alloc (.map #[] 0)).alloc (.cells #[.map (some V.heap.size)] 86)).alloc (.cells #[.int .i64 p1, .int .i64 k1, .int .i64 s1, .int .i64 n1, .int .i64 m1, .slice A1 j1 c1, .int .i64 p2, .int .i64 k2, .int .i64 s2, .int .i64 n2, .int .i64 m2, .slice A2 j2 c2] 29)).heap[h]? = some (.cells #[.int .i64 (min p1 p2), .int .i64 (IntKind.i64.wrap (k1 + k2)), .int .i64 (IntKind.i64.wrap (s1 + s2)), .int .i64 z, .int .i64 (max m1 m2), .slice none 0 0] 29 (0, 0)) := ((Below.heap_alloc _ _ _ (by have := HHL.out; simp; omega)).trans ((Below.heap_alloc _ _ _ (by have := HHL.out; simp; omega)).trans (Below.heap_alloc _ _ _ HHL.out))).trans HHR.out
    have hz3 : V.heap.size + 3 ≤ (((V.alloc (.map #[] 0)).alloc (.cells #[.map (some V.heap.size)] 86)).alloc (.cells #[.int .i64 p1, .int .i64 k1, .int .i64 s1, .int .i64 n1, .int .i64 m1, .slice A1 j1 c1, .int .i64 p2, .int .i64 k2, .int .i64 s2, .int .i64 n2, .int .i64 m2, .slice A2 j2 c2] 29)).heap.size := by simp only [World.size_alloc]; omega
    have HCM := Lib.hid cm
    have HKT := Lib.hid kt
    have HKP := Lib.hid kp
    have HKH := Lib.hid kh
    have HD0 := Lib.hid D0
    have hR3 : w.heap.size + 3 ≤ V.heap.size := hlv
    have hhv := HHL.out
    have hhx := HHX.out
    clear cm kt kp kh D0 HHR hbel hlv hlv0 hlv1 HHL HHX
    generalize ((V.alloc (.map #[] 0)).alloc (.cells #[.map (some V.heap.size)] 86)).alloc (.cells #[.int .i64 p1, .int .i64 k1, .int .i64 s1, .int .i64 n1, .int .i64 m1, .slice A1 j1 c1, .int .i64 p2, .int .i64 k2, .int .i64 s2, .int .i64 n2, .int .i64 m2, .slice A2 j2 c2] 29) = R at *
    generalize V.heap.size = vb at *
    refine wpIn_loop_rounds 3 ?_
    rw [roundsIn_succ]
    have HBU : Hid (But R.heap.size vb R R) := But.refl _ _ _
    have HBB : Hid (Below w.heap.size w R) := Lib.hid (BW.out.trans (HD0.out.mono (by have := HSW.out; omega)))
    have hpc := HKP.out
    have gp : HC R (vb + 1 + 1) p1 k1 s1 n1 m1 A1 j1 c1 ∧ (R.cell? ⟨vb + 1 + 1, 6, none⟩ = some (.int .i64 p2) ∧ R.cell? ⟨vb + 1 + 1, 7, none⟩ = some (.int .i64 k2) ∧ R.cell? ⟨vb + 1 + 1, 8, none⟩ = some (.int .i64 s2) ∧ R.cell? ⟨vb + 1 + 1, 9, none⟩ = some (.int .i64 n2) ∧ R.cell? ⟨vb + 1 + 1, 10, none⟩ = some (.int .i64 m2) ∧ R.cell? ⟨vb + 1 + 1, 11, none⟩ = some (.slice A2 j2 c2)) := by
      refine ⟨⟨?_, ?_, ?_, ?_, ?_, ?_⟩, ?_, ?_, ?_, ?_, ?_, ?_⟩ <;> simp [World.cell?, hpc]
    clear hpc
    obtain ⟨⟨x0, x1, x2, x3, x4, x5⟩, y0, y1, y2, y3, y4, y5⟩ := gp
    gi_wp2_with fail
    refine ⟨trivial, ?_⟩
    clear x0 x1 x2 x3 x4 x5 y0 y1 y2 y3 y4 y5
    refine (asc_in _ p1 k1 s1 n1 m1 A1 j1 c1 _).mono ?_
    rintro e w' ⟨rfl, rfl⟩
    gi_wp2_with fail
    have hbl : HC ((R.alloc (.cells #[.int .i64 p1, .int .i64 k1, .int .i64 s1, .int .i64 n1, .int .i64 m1, .slice A1 j1 c1] 29)).alloc (.cells #[.int .i64 p1, .int .i64 k1, .int .i64 s1, .int .i64 n1, .int .i64 m1, .slice A1 j1 c1] 29)) (R.heap.size + 1) p1 k1 s1 n1 m1 A1 j1 c1 := by
      have h := HC.new (R.alloc (.cells #[.int .i64 p1, .int .i64 k1, .int .i64 s1, .int .i64 n1, .int .i64 m1, .slice A1 j1 c1] 29)) 29 p1 k1 s1 n1 m1 A1 j1 c1
      simpa only [World.size_alloc] using h
    have hz0 : ((R.alloc (.cells #[.int .i64 p1, .int .i64 k1, .int .i64 s1, .int .i64 n1, .int .i64 m1, .slice A1 j1 c1] 29)).alloc (.cells #[.int .i64 p1, .int .i64 k1, .int .i64 s1, .int .i64 n1, .int .i64 m1, .slice A1 j1 c1] 29)).heap.size = R.heap.size + 2 := by simp only [World.size_alloc]
    have hbb : Below R.heap.size R ((R.alloc (.cells #[.int .i64 p1, .int .i64 k1, .int .i64 s1, .int .i64 n1, .int .i64 m1, .slice A1 j1 c1] 29)).alloc (.cells #[.int .i64 p1, .int .i64 k1, .int .i64 s1, .int .i64 n1, .int .i64 m1, .slice A1 j1 c1] 29)) := ((Below.refl _ _).alloc (Nat.le_refl _) _).alloc (by simp) _
    have hcm : CntM ((R.alloc (.cells #[.int .i64 p1, .int .i64 k1, .int .i64 s1, .int .i64 n1, .int .i64 m1, .slice A1 j1 c1] 29)).alloc (.cells #[.int .i64 p1, .int .i64 k1, .int .i64 s1, .int .i64 n1, .int .i64 m1, .slice A1 j1 c1] 29)) vb 0 [] := HCM.out.same (hbb.block vb (by omega))
    have hbu : But R.heap.size vb R ((R.alloc (.cells #[.int .i64 p1, .int .i64 k1, .int .i64 s1, .int .i64 n1, .int .i64 m1, .slice A1 j1 c1] 29)).alloc (.cells #[.int .i64 p1, .int .i64 k1, .int .i64 s1, .int .i64 n1, .int .i64 m1, .slice A1 j1 c1] 29)) := HBU.out.below (by omega) hbb
    clear hbb
    generalize (R.alloc (.cells #[.int .i64 p1, .int .i64 k1, .int .i64 s1, .int .i64 n1, .int .i64 m1, .slice A1 j1 c1] 29)).alloc (.cells #[.int .i64 p1, .int .i64 k1, .int .i64 s1, .int .i64 n1, .int .i64 m1, .slice A1 j1 c1] 29) = U0 at *
    have hBU : Below w.heap.size w U0 := hbu.all HBB.out (by omega) (by omega)
    rw [← hj1] at hbl
    obtain ⟨b1, o, hL, hlt1, hor⟩ := liesH_new p1 k1 s1 n1 m1 l1 A1 c1 w U0 (R.heap.size + 1) hA hBU hbl (by omega)
    have h1m : b1 ≠ vb := by omega
    have ST := Lib.hid (asc_stops Rj 5 (by omega) b1 (R.heap.size + 1) o c1 p1 k1 s1 n1 m1 A1 l1 (by omega) ⟨ox.p0, ox.p8⟩ (fun x hx => ⟨(ox.rng x hx).1, (ox.rng x hx).2.1⟩) ox.pos tt1 RJ1 U0 hlt1 (by omega) hL)
    clear hL hbl
    have HCU := Lib.hid hcm
    have HBV := Lib.hid hbu
    clear hcm hbu hBU
    refine wpIn_rangeFunc_ownH rfl (by omega) (gf := 80) (lb := #[.pointer (some ⟨R.heap.size + 1, 0, none⟩)]) rfl trivial (enters_of Try.func80 (by kernel_rfl) rfl)
      ST.out (fun h k => h.trans k) (fun W lq oq oq' hlq hq hc hw => KK.put (by omega) (by omega)) (Below.refl _ _) (fun _ => rfl)
      (fun pre W => CntM W vb (0 + pre.length) (cnts (min p1 p2) [] (valQ pre)) ∧ But R.heap.size vb R W ∧ U0.heap.size ≤ W.heap.size)
      (fun _ _ _ => False)
      (OwnFrom.and (fun s X Y row h hg hr => h.kept hg (fun e => by have := (hr vb e.symm).1; omega)) (OwnFrom.and (fun s X Y row h hg hr => h.grown (by have := h.size; omega) hg (fun r e => .inr (by have := (hr r e).1; omega))) (fun s X Y row h hg hr => Nat.le_trans h hg.size)))
      (fun c s A B row h hg hr => h)
      ⟨HCU.out, HBV.out, Nat.le_refl _⟩
      (fun x a' W => ∃ Bp, R.heap.size + 1 < Bp ∧ W.heap[Bp]? = some (.cells #[.int .i64 x.1.1, .int .i64 x.1.2.1, .int .i64 x.1.2.2.1] 79 (0, 0)) ∧ a' = { tmps := #[hV p1 k1 s1 n1 m1 A1 j1 c1, hV p2 k2 s2 n2 m2 A2 j2 c2, .pointer (some ⟨w.heap.size, 0, none⟩), .pointer (some ⟨w.heap.size + 1, 0, none⟩), .pointer (some ⟨w.heap.size + 1 + 1, 0, none⟩), .int .i64 0, .pointer (some ⟨h, 0, none⟩), .pointer (some ⟨vb + 1, 0, none⟩), undef, .pointer (some ⟨R.heap.size, 0, none⟩), .pointer (some ⟨Bp, 0, none⟩), undef, undef, .pointer (some ⟨w.heap.size, 0, none⟩), .int .i64 p1, .pointer (some ⟨w.heap.size + 1, 0, none⟩), .int .i64 p2, .int .i64 (min p1 p2), .pointer (some ⟨w.heap.size, 1, none⟩), .int .i64 k1, .pointer (some ⟨w.heap.size + 1, 1, none⟩), .int .i64 k2, .int .i64 (wrap64 (k1 + k2)), .pointer (some ⟨w.heap.size, 2, none⟩), .int .i64 s1, .pointer (some ⟨w.heap.size + 1, 2, none⟩), .int .i64 s2, .int .i64 (wrap64 (s1 + s2)), hV p1 k1 s1 n1 m1 A1 j1 c1, hV p2 k2 s2 n2 m2 A2 j2 c2, .int .i64 z, .pointer (some ⟨w.heap.size, 4, none⟩), .int .i64 m1, .pointer (some ⟨w.heap.size + 1, 4, none⟩), .int .i64 m2, .int .i64 (max m1 m2), .agg #[.int .i64 (min p1 p2), .int .i64 (wrap64 (k1 + k2)), .int .i64 (wrap64 (s1 + s2)), .int .i64 z, .int .i64 (max m1 m2), .slice none 0 0], .map (some vb), hV p1 k1 s1 n1 m1 A1 j1 c1, hV p2 k2 s2 n2 m2 A2 j2 c2, .slice (some ⟨vb + 1 + 1, 0, none⟩) 2 2, .int .i64 2, .int .i64 0, .bool true, .pointer (some ⟨vb + 1 + 1, 0, none⟩), hV p1 k1 s1 n1 m1 A1 j1 c1, hV p1 k1 s1 n1 m1 A1 j1 c1, .func (.func 80) #[] #[.pointer (some ⟨R.heap.size + 1, 0, none⟩)], .agg #[.int .i64 x.1.1, .int .i64 x.1.2.1, .int .i64 x.1.2.2.1], .int .i64 x.1.2.2.2, undef, undef, undef, undef, undef, undef, undef, undef, undef, undef, undef, undef, undef, undef, undef, undef, undef, undef, undef, undef, undef, undef, undef, undef, undef, undef, undef, undef, undef, undef, undef, undef, undef, undef, undef, undef, undef, undef, undef, undef], defers := [] })
      (fun x a' _ A B row hs hg hr => by
        obtain ⟨Bp, i1, i2, i3⟩ := hs
        exact ⟨Bp, i1, row_own (β := Unit) Bp _ (fun _ => _) () A B row i2 hg (fun r e => (hr r e).2), i3⟩)
      ?assign ?body ?done ?stop
    case assign =>
      rintro lc pre x W K ⟨i1, i2, i3⟩ hK
      have hle := i2.size
      gi_wp2
      refine hK _ _ ((KeepsOthers.alloc _ _).from _) (KK.al _ (by omega) (by omega)) ⟨i1.kept (World.grownBy_alloc _ _ none) (by simp), i2.below (by omega) ((Below.refl _ _).alloc (Nat.le_refl _) _), by simp; omega⟩ ⟨W.heap.size, by omega, heap_alloc_new _ _, rfl⟩
    case body =>
      rintro lc pre x a' W hlc _ ⟨i1, i2, i3⟩ ⟨Bp, q1, q2, rfl⟩ hlt
      have hvs := valQ_snoc pre x
      have hcs := cnts_snoc (min p1 p2) [] (valQ pre) x.1
      rw [← hvs] at hcs
      have hbd := cnts_bound (P := min p1 p2) (R := Rj) (fun q h => h.1) pre []
      have hle := i2.size
      have hln : pre.length < 500 := by have h9 : pre.length < l1.length := hlt; omega
      have ht0 : tot [] ≤ 1048576 := by rw [tot_nil]; omega
      obtain ⟨⟨xc, xl, xh, xu⟩, hxr⟩ := x
      have hx2 : (1 ≤ xc ∧ xc ≤ 1048576) ∧ 0 ≤ xl ∧ xl ≤ 1099511627776 := hxr
      dsimp only at hcs q2 ⊢
      obtain ⟨g0, g1, g2⟩ := cells3' q2
      have kt : Boxed W (vb + 1) 86 (.map (some vb)) := (i2.block (vb + 1) (by omega) (by omega)).trans HKT.out
      have hkt := kt.cell
      have hkh := (hist_cells ((i2.block h (by omega) (by omega)).trans HKH.out)).1
      have HI := Lib.hid (indexOf_I (min p1 p2) xl hP hx2.2)
      have hpos : Pos (cnts (min p1 p2) [] (valQ pre)) := by obtain ⟨D, _, ⟨_, hp⟩, _⟩ := i1; exact hp
      have hxi := ixI_range (p := min p1 p2) hx2.2
      have hti := top_le (p := (min p1 p2).toNat) (by omega)
      have hin : inI (ixI (min p1 p2) xl) := by
        unfold inI
        unfold topI at hxi
        omega
      generalize ixI (min p1 p2) xl = ii at *
      have hcf := cf_le_tot hpos ii
      have hcn := cf_nonneg (j := ii) hpos
      generalize cnts (min p1 p2) [] (valQ pre) = mm at *
      have hw1 : wrap64 (cf mm ii + xc) = cf mm ii + xc := wrap_in (by omega)
      have hw2 : IntKind.i64.wrap (cf mm ii + xc) = cf mm ii + xc := by rw [IntWalk.i64_in _ (by omega)]
      have hinc : inI (cf mm ii + xc) := by unfold inI; omega
      have HCS := Lib.hid hcs
      have Hi1 := Lib.hid i1
      have Hi2 := Lib.hid i2
      have HN := Lib.hid hinc
      have HIN := Lib.hid hin
      have HTT := Lib.hid hx2
      have hwm : vb < W.heap.size := by omega
      have hwh : h < W.heap.size := by omega
      have hwt : vb + 1 < W.heap.size := by omega
      have hwp : Bp < W.heap.size := (Array.getElem?_eq_some_iff.1 q2).1
      have hnh : h ≠ vb := by omega
      have hnp : Bp ≠ vb := by omega
      clear hcs i1 i2 hbd hcf hcn hpos hxi hti hx2 kt hvs hin hinc HCM HKT HKP HKH HD0 SA SL HA
      gi_wp2
      refine region8 (mm := mm) g0 g1 hkt hkh hwm hwh hwt hwp hnh hnp HI.out Hi1.out (by simp only [maxLen]; omega) HIN.out HTT.out.1.1 HN.out hw1 hw2 ?_
      rintro V6 ⟨cm6, hg6⟩
      refine ⟨KeepsFrom.of_grownBy hg6 (fun j e => by cases e; omega), ⟨hg6.block b1 (by omega) (by intro e; cases e; omega), hg6.block _ (by omega) (by intro e; cases e; omega), hg6.size⟩, ?_, Hi2.out.grown (by omega) hg6 (fun r e => .inl (by cases e; rfl)), by have := hg6.size; omega⟩
      rw [HCS.out]
      exact cm6.more (by rw [List.length_append]; simp only [List.length_cons, List.length_nil]; omega)
    case stop =>
      rintro D c pre W hD hS h hK
      exact h.elim
    case done =>
      rintro D0 zs Y hD0 hzs ⟨i1, i2, i3⟩ hK0
      rw [hzs, cnts_its] at i1
      have hzl : zs.length = l1.length := by
        have h := congrArg List.length hzs
        rw [valQ_length, its_length] at h
        exact h
      have hTM : tot (puts (fun j => ixI (min p1 p2) (max (loI p1 j) n1)) [] l1) ≤ 1048576 := by
        unfold tot
        rw [W_puts]
        have := tt1
        unfold tot at this
        simp only [W]
        omega
      generalize (puts (fun j => ixI (min p1 p2) (max (loI p1 j) n1)) [] l1) = M1 at *
      have HCM2 : Hid (CntM Y vb 500 M1) := Lib.hid (i1.more (by omega))
      have HBU2 : Hid (But Y.heap.size vb Y Y) := But.refl _ _ _
      have HBB2 : Hid (Below w.heap.size w Y) := Lib.hid (i2.all HBB.out (by omega) (by omega))
      have HKT2 : Hid (Boxed Y (vb + 1) 86 (.map (some vb))) := Lib.hid ((i2.block (vb + 1) (by omega) (by omega)).trans HKT.out)
      have HKH2 : Hid (Y.heap[h]? = some (.cells #[.int .i64 (min p1 p2), .int .i64 (IntKind.i64.wrap (k1 + k2)), .int .i64 (IntKind.i64.wrap (s1 + s2)), .int .i64 z, .int .i64 (max m1 m2), .slice none 0 0] 29 (0, 0))) := Lib.hid ((i2.block h (by omega) (by omega)).trans HKH.out)
      have HKR2 : Hid (Y.heap[w.heap.size + 1 + 1]? = some (.cells #[.int .i64 0, .int .i64 0, .int .i64 0, .int .i64 0, .int .i64 0, .slice none 0 0] 29 (0, 0))) := Lib.hid ((i2.block (w.heap.size + 1 + 1) (by omega) (by omega)).trans ((HD0.out.block (w.heap.size + 1 + 1) (by omega)).trans KR.out))
      have HK0 := Lib.hid hK0
      have hD0Y : D0 < Y.heap.size := (Array.getElem?_eq_some_iff.1 hK0).1
      have HKP2 : Hid (Y.heap[vb + 1 + 1]? = some (.cells #[.int .i64 p1, .int .i64 k1, .int .i64 s1, .int .i64 n1, .int .i64 m1, .slice A1 j1 c1, .int .i64 p2, .int .i64 k2, .int .i64 s2, .int .i64 n2, .int .i64 m2, .slice A2 j2 c2] 29 (0, 0))) := Lib.hid ((i2.block (vb + 1 + 1) (by omega) (by omega)).trans HKP.out)
      have hRY := i2.size
      clear i1 i2 i3 hzs hzl HCU HBV ST h1m hor hlt1 hK0 HKT HKH HKP HCM HBU HBB
      gi_wp2
      rw [roundsIn_succ]
      have hpc := HKP2.out
      have gp : HC Y (vb + 1 + 1) p1 k1 s1 n1 m1 A1 j1 c1 ∧ (Y.cell? ⟨vb + 1 + 1, 6, none⟩ = some (.int .i64 p2) ∧ Y.cell? ⟨vb + 1 + 1, 7, none⟩ = some (.int .i64 k2) ∧ Y.cell? ⟨vb + 1 + 1, 8, none⟩ = some (.int .i64 s2) ∧ Y.cell? ⟨vb + 1 + 1, 9, none⟩ = some (.int .i64 n2) ∧ Y.cell? ⟨vb + 1 + 1, 10, none⟩ = some (.int .i64 m2) ∧ Y.cell? ⟨vb + 1 + 1, 11, none⟩ = some (.slice A2 j2 c2)) := by
        refine ⟨⟨?_, ?_, ?_, ?_, ?_, ?_⟩, ?_, ?_, ?_, ?_, ?_, ?_⟩ <;> simp [World.cell?, hpc]
      clear hpc
      obtain ⟨⟨x0, x1, x2, x3, x4, x5⟩, y0, y1, y2, y3, y4, y5⟩ := gp
      gi_wp2_with fail
      refine ⟨trivial, ?_⟩
      clear x0 x1 x2 x3 x4 x5 y0 y1 y2 y3 y4 y5
      refine (asc_in _ p2 k2 s2 n2 m2 A2 j2 c2 _).mono ?_
      rintro e w' ⟨rfl, rfl⟩
      gi_wp2_with fail
      have hbl : HC ((Y.alloc (.cells #[.int .i64 p2, .int .i64 k2, .int .i64 s2, .int .i64 n2, .int .i64 m2, .slice A2 j2 c2] 29)).alloc (.cells #[.int .i64 p2, .int .i64 k2, .int .i64 s2, .int .i64 n2, .int .i64 m2, .slice A2 j2 c2] 29)) (Y.heap.size + 1) p2 k2 s2 n2 m2 A2 j2 c2 := by
        have h := HC.new (Y.alloc (.cells #[.int .i64 p2, .int .i64 k2, .int .i64 s2, .int .i64 n2, .int .i64 m2, .slice A2 j2 c2] 29)) 29 p2 k2 s2 n2 m2 A2 j2 c2
        simpa only [World.size_alloc] using h
      have hz1 : ((Y.alloc (.cells #[.int .i64 p2, .int .i64 k2, .int .i64 s2, .int .i64 n2, .int .i64 m2, .slice A2 j2 c2] 29)).alloc (.cells #[.int .i64 p2, .int .i64 k2, .int .i64 s2, .int .i64 n2, .int .i64 m2, .slice A2 j2 c2] 29)).heap.size = Y.heap.size + 2 := by simp only [World.size_alloc]
      have hbb : Below Y.heap.size Y ((Y.alloc (.cells #[.int .i64 p2, .int .i64 k2, .int .i64 s2, .int .i64 n2, .int .i64 m2, .slice A2 j2 c2] 29)).alloc (.cells #[.int .i64 p2, .int .i64 k2, .int .i64 s2, .int .i64 n2, .int .i64 m2, .slice A2 j2 c2] 29)) := ((Below.refl _ _).alloc (Nat.le_refl _) _).alloc (by simp) _
      have hcm : CntM ((Y.alloc (.cells #[.int .i64 p2, .int .i64 k2, .int .i64 s2, .int .i64 n2, .int .i64 m2, .slice A2 j2 c2] 29)).alloc (.cells #[.int .i64 p2, .int .i64 k2, .int .i64 s2, .int .i64 n2, .int .i64 m2, .slice A2 j2 c2] 29)) vb 500 M1 := HCM2.out.same (hbb.block vb (by omega))
      have hbu : But Y.heap.size vb Y ((Y.alloc (.cells #[.int .i64 p2, .int .i64 k2, .int .i64 s2, .int .i64 n2, .int .i64 m2, .slice A2 j2 c2] 29)).alloc (.cells #[.int .i64 p2, .int .i64 k2, .int .i64 s2, .int .i64 n2, .int .i64 m2, .slice A2 j2 c2] 29)) := HBU2.out.below (by omega) hbb
      clear hbb
      generalize (Y.alloc (.cells #[.int .i64 p2, .int .i64 k2, .int .i64 s2, .int .i64 n2, .int .i64 m2, .slice A2 j2 c2] 29)).alloc (.cells #[.int .i64 p2, .int .i64 k2, .int .i64 s2, .int .i64 n2, .int .i64 m2, .slice A2 j2 c2] 29) = U1 at *
      have hBU : Below w.heap.size w U1 := hbu.all HBB2.out (by omega) (by omega)
      rw [← hj2] at hbl
      obtain ⟨b1, o, hL, hlt1, hor⟩ := liesH_new p2 k2 s2 n2 m2 l2 A2 c2 w U1 (Y.heap.size + 1) hB hBU hbl (by omega)
      have h1m : b1 ≠ vb := by omega
      have ST := Lib.hid (asc_stops Rj 5 (by omega) b1 (Y.heap.size + 1) o c2 p2 k2 s2 n2 m2 A2 l2 (by omega) ⟨oy.p0, oy.p8⟩ (fun x hx => ⟨(oy.rng x hx).1, (oy.rng x hx).2.1⟩) oy.pos tt2 RJ2 U1 hlt1 (by omega) hL)
      clear hL hbl
      have HCU := Lib.hid hcm
      have HBV := Lib.hid hbu
      clear hcm hbu hBU
      refine wpIn_rangeFunc_ownH rfl (by omega) (gf := 80) (lb := #[.pointer (some ⟨Y.heap.size + 1, 0, none⟩)]) rfl trivial (enters_of Try.func80 (by kernel_rfl) rfl)
        ST.out (fun h k => h.trans k) (fun W lq oq oq' hlq hq hc hw => KK.put (by omega) (by omega)) (Below.refl _ _) (fun _ => rfl)
        (fun pre W => CntM W vb (500 + pre.length) (cnts (min p1 p2) M1 (valQ pre)) ∧ But Y.heap.size vb Y W ∧ U1.heap.size ≤ W.heap.size)
        (fun _ _ _ => False)
        (OwnFrom.and (fun s X Y row h hg hr => h.kept hg (fun e => by have := (hr vb e.symm).1; omega)) (OwnFrom.and (fun s X Y row h hg hr => h.grown (by have := h.size; omega) hg (fun r e => .inr (by have := (hr r e).1; omega))) (fun s X Y row h hg hr => Nat.le_trans h hg.size)))
        (fun c s A B row h hg hr => h)
        ⟨HCU.out, HBV.out, Nat.le_refl _⟩
        (fun x a' W => ∃ Bp, Y.heap.size + 1 < Bp ∧ W.heap[Bp]? = some (.cells #[.int .i64 x.1.1, .int .i64 x.1.2.1, .int .i64 x.1.2.2.1] 79 (0, 0)) ∧ a' = { tmps := #[hV p1 k1 s1 n1 m1 A1 j1 c1, hV p2 k2 s2 n2 m2 A2 j2 c2, .pointer (some ⟨w.heap.size, 0, none⟩), .pointer (some ⟨w.heap.size + 1, 0, none⟩), .pointer (some ⟨w.heap.size + 1 + 1, 0, none⟩), .int .i64 0, .pointer (some ⟨h, 0, none⟩), .pointer (some ⟨vb + 1, 0, none⟩), undef, .pointer (some ⟨Y.heap.size, 0, none⟩), .pointer (some ⟨Bp, 0, none⟩), undef, undef, .pointer (some ⟨w.heap.size, 0, none⟩), .int .i64 p1, .pointer (some ⟨w.heap.size + 1, 0, none⟩), .int .i64 p2, .int .i64 (min p1 p2), .pointer (some ⟨w.heap.size, 1, none⟩), .int .i64 k1, .pointer (some ⟨w.heap.size + 1, 1, none⟩), .int .i64 k2, .int .i64 (wrap64 (k1 + k2)), .pointer (some ⟨w.heap.size, 2, none⟩), .int .i64 s1, .pointer (some ⟨w.heap.size + 1, 2, none⟩), .int .i64 s2, .int .i64 (wrap64 (s1 + s2)), hV p1 k1 s1 n1 m1 A1 j1 c1, hV p2 k2 s2 n2 m2 A2 j2 c2, .int .i64 z, .pointer (some ⟨w.heap.size, 4, none⟩), .int .i64 m1, .pointer (some ⟨w.heap.size + 1, 4, none⟩), .int .i64 m2, .int .i64 (max m1 m2), .agg #[.int .i64 (min p1 p2), .int .i64 (wrap64 (k1 + k2)), .int .i64 (wrap64 (s1 + s2)), .int .i64 z, .int .i64 (max m1 m2), .slice none 0 0], .map (some vb), hV p1 k1 s1 n1 m1 A1 j1 c1, hV p2 k2 s2 n2 m2 A2 j2 c2, .slice (some ⟨vb + 1 + 1, 0, none⟩) 2 2, .int .i64 2, .int .i64 1, .bool true, .pointer (some ⟨vb + 1 + 1, 6, none⟩), hV p2 k2 s2 n2 m2 A2 j2 c2, hV p2 k2 s2 n2 m2 A2 j2 c2, .func (.func 80) #[] #[.pointer (some ⟨Y.heap.size + 1, 0, none⟩)], .agg #[.int .i64 x.1.1, .int .i64 x.1.2.1, .int .i64 x.1.2.2.1], .int .i64 x.1.2.2.2, undef, undef, undef, undef, undef, undef, undef, undef, undef, undef, .int .i64 1, undef, undef, undef, undef, undef, undef, undef, undef, undef, undef, undef, undef, undef, undef, undef, undef, undef, undef, undef, undef, undef, undef, undef, undef, undef, undef, undef, undef, undef], defers := [] })
        (fun x a' _ A B row hs hg hr => by
          obtain ⟨Bp, i1, i2, i3⟩ := hs
          exact ⟨Bp, i1, row_own (β := Unit) Bp _ (fun _ => _) () A B row i2 hg (fun r e => (hr r e).2), i3⟩)
        ?assign ?body ?done ?stop
      case assign =>
        rintro lc pre x W K ⟨i1, i2, i3⟩ hK
        have hle := i2.size
        gi_wp2
        refine hK _ _ ((KeepsOthers.alloc _ _).from _) (KK.al _ (by omega) (by omega)) ⟨i1.kept (World.grownBy_alloc _ _ none) (by simp), i2.below (by omega) ((Below.refl _ _).alloc (Nat.le_refl _) _), by simp; omega⟩ ⟨W.heap.size, by omega, heap_alloc_new _ _, rfl⟩
      case body =>
        rintro lc pre x a' W hlc _ ⟨i1, i2, i3⟩ ⟨Bp, q1, q2, rfl⟩ hlt
        have hvs := valQ_snoc pre x
        have hcs := cnts_snoc (min p1 p2) M1 (valQ pre) x.1
        rw [← hvs] at hcs
        have hbd := cnts_bound (P := min p1 p2) (R := Rj) (fun q h => h.1) pre M1
        have hle := i2.size
        have hln : pre.length < 500 := by have h9 : pre.length < l2.length := hlt; omega
        have ht0 : tot M1 ≤ 1048576 := hTM
        obtain ⟨⟨xc, xl, xh, xu⟩, hxr⟩ := x
        have hx2 : (1 ≤ xc ∧ xc ≤ 1048576) ∧ 0 ≤ xl ∧ xl ≤ 1099511627776 := hxr
        dsimp only at hcs q2 ⊢
        obtain ⟨g0, g1, g2⟩ := cells3' q2
        have kt : Boxed W (vb + 1) 86 (.map (some vb)) := (i2.block (vb + 1) (by omega) (by omega)).trans HKT2.out
        have hkt := kt.cell
        have hkh := (hist_cells ((i2.block h (by omega) (by omega)).trans HKH2.out)).1
        have HI := Lib.hid (indexOf_I (min p1 p2) xl hP hx2.2)
        have hpos : Pos (cnts (min p1 p2) M1 (valQ pre)) := by obtain ⟨D, _, ⟨_, hp⟩, _⟩ := i1; exact hp
        have hxi := ixI_range (p := min p1 p2) hx2.2
        have hti := top_le (p := (min p1 p2).toNat) (by omega)
        have hin : inI (ixI (min p1 p2) xl) := by
          unfold inI
          unfold topI at hxi
          omega
        generalize ixI (min p1 p2) xl = ii at *
        have hcf := cf_le_tot hpos ii
        have hcn := cf_nonneg (j := ii) hpos
        generalize cnts (min p1 p2) M1 (valQ pre) = mm at *
        have hw1 : wrap64 (cf mm ii + xc) = cf mm ii + xc := wrap_in (by omega)
        have hw2 : IntKind.i64.wrap (cf mm ii + xc) = cf mm ii + xc := by rw [IntWalk.i64_in _ (by omega)]
        have hinc : inI (cf mm ii + xc) := by unfold inI; omega
        have HCS := Lib.hid hcs
        have Hi1 := Lib.hid i1
        have Hi2 := Lib.hid i2
        have HN := Lib.hid hinc
        have HIN := Lib.hid hin
        have HTT := Lib.hid hx2
        have hwm : vb < W.heap.size := by omega
        have hwh : h < W.heap.size := by omega
        have hwt : vb + 1 < W.heap.size := by omega
        have hwp : Bp < W.heap.size := (Array.getElem?_eq_some_iff.1 q2).1
        have hnh : h ≠ vb := by omega
        have hnp : Bp ≠ vb := by omega
        clear hcs i1 i2 hbd hcf hcn hpos hxi hti hx2 kt hvs hin hinc HCM2 HKT2 HKP2 HKH2 HD0 SA SL HA
        gi_wp2
        refine region8 (mm := mm) g0 g1 hkt hkh hwm hwh hwt hwp hnh hnp HI.out Hi1.out (by simp only [maxLen]; omega) HIN.out HTT.out.1.1 HN.out hw1 hw2 ?_
        rintro V6 ⟨cm6, hg6⟩
        refine ⟨KeepsFrom.of_grownBy hg6 (fun j e => by cases e; omega), ⟨hg6.block b1 (by omega) (by intro e; cases e; omega), hg6.block _ (by omega) (by intro e; cases e; omega), hg6.size⟩, ?_, Hi2.out.grown (by omega) hg6 (fun r e => .inl (by cases e; rfl)), by have := hg6.size; omega⟩
        rw [HCS.out]
        exact cm6.more (by rw [List.length_append]; simp only [List.length_cons, List.length_nil]; omega)
      case stop =>
        rintro D c pre W hD hS h hK
        exact h.elim
      case done =>
        rintro D1 zs Z hD1 hzs ⟨i1, i2, i3⟩ hK1
        rw [hzs, cnts_its] at i1
        have hzl : zs.length = l2.length := by
          have h := congrArg List.length hzs
          rw [valQ_length, its_length] at h
          exact h
        rw [← HJ1.out.2.2.2.2.2] at i1
        have HCM3 : Hid (CntM Z vb 1000 J.bs) := Lib.hid (i1.more (by omega))
        have hRZ := i2.size
        have kt3 : Boxed Z (vb + 1) 86 (.map (some vb)) := (i2.block (vb + 1) (by omega) (by omega)).trans HKT2.out
        have kh3 := (i2.block h (by omega) (by omega)).trans HKH2.out
        have kr3 := (i2.block (w.heap.size + 1 + 1) (by omega) (by omega)).trans HKR2.out
        have hBZ : Below w.heap.size w Z := i2.all HBB2.out (by omega) (by omega)
        have HKD0 : Hid (Z.heap[D0]? = some (.deferred (some []))) := Lib.hid ((i2.block D0 hD0Y (by intro e; have := HCM2.out; rw [e] at hD0; omega)).trans HK0.out)
        have hD01 : D0 ≠ D1 := by omega
        have HKD1 := Lib.hid hK1
        have hrD0 : w.heap.size + 1 + 1 ≠ D0 := by omega
        have hrD1 : w.heap.size + 1 + 1 ≠ D1 := by omega
        clear i1 i2 i3 hzs hzl HCU HBV ST h1m hor hlt1 HCM2 HBU2 HKP2 HKT2 HKH2 HKR2 HK0 hK1
        have HKT3 := Lib.hid kt3
        have HKH3 := Lib.hid kh3
        have HKR3 := Lib.hid kr3
        have HBZ := Lib.hid hBZ
        have hct := kt3.cell
        have hch := (hist_cells kh3).2.1
        have hml := HCM3.out.len 3
        have hbw : wrap64 (k1 + k2) = k1 + k2 := wrap_in HK.out
        have hbw2 : IntKind.i64.wrap (k1 + k2) = k1 + k2 := by rw [IntWalk.i64_in _ HK.out]
        have hbs : wrap64 (s1 + s2) = s1 + s2 := wrap_in HS.out
        have hbs2 : IntKind.i64.wrap (s1 + s2) = s1 + s2 := by rw [IntWalk.i64_in _ HS.out]
        rw [hbw2] at hch
        obtain ⟨r0, r1, r2, r3, r4, r5⟩ := hist_cells kr3
        have rf : ∀ j, Z.frozen? ⟨w.heap.size + 1 + 1, j, none⟩ = false := fun j => by simp [World.frozen?, kr3]
        have rf0 := rf 0
        have rf1 := rf 1
        have rf2 := rf 2
        have rf3 := rf 3
        have rf4 := rf 4
        have rf5 := rf 5
        clear kt3 kh3 kr3 hBZ rf
        gi_wp2
        rw [roundsIn_succ]
        by_cases hbig : 1048576 < k1 + k2
        · gi_wp2
          obtain ⟨y0, y1, y2, hy⟩ := six_end HKR3.out HBZ.out (by omega) HKD0.out HKD1.out hD01 hrD0 hrD1 (by omega) (by omega) (.int .i64 0) (.int .i64 0) (.int .i64 0) (.int .i64 0) (.int .i64 0) (.slice none 0 0)
          obtain ⟨z0, z1, z2, z3, z4, z5⟩ := hist_cells hy
          refine ⟨by simp, .inl ⟨_, _, rfl, run_takeDeferred y0, ?_⟩⟩
          refine ⟨by simp, .inl ⟨_, _, rfl, run_takeDeferred y1, ?_⟩⟩
          refine ⟨.tuple #[hV 0 0 0 0 0 none 0 0, .int .i64 4], by simp [results, Try.f42, go_sem, z0, z1, z2, z3, z4, z5], ?_⟩
          have hl4 : limH J = (zeroH, 4) := by unfold limH; rw [if_pos (.inl (by rw [HJ1.out.2.1]; exact hbig))]
          rw [hl4]
          exact ⟨none, 0, rfl, LS.nil _ _ _, fun h => (h rfl).elim, y2⟩
        by_cases hmany : 500 < J.bs.length
        · have hmany' : (500 : Int) < (J.bs.length : Int) := by omega
          gi_wp2
          obtain ⟨y0, y1, y2, hy⟩ := six_end HKR3.out HBZ.out (by omega) HKD0.out HKD1.out hD01 hrD0 hrD1 (by omega) (by omega) (.int .i64 0) (.int .i64 0) (.int .i64 0) (.int .i64 0) (.int .i64 0) (.slice none 0 0)
          obtain ⟨z0, z1, z2, z3, z4, z5⟩ := hist_cells hy
          refine ⟨by simp, .inl ⟨_, _, rfl, run_takeDeferred y0, ?_⟩⟩
          refine ⟨by simp, .inl ⟨_, _, rfl, run_takeDeferred y1, ?_⟩⟩
          refine ⟨.tuple #[hV 0 0 0 0 0 none 0 0, .int .i64 4], by simp [results, Try.f42, go_sem, z0, z1, z2, z3, z4, z5], ?_⟩
          have hl4 : limH J = (zeroH, 4) := by unfold limH; rw [if_pos (.inr hmany)]
          rw [hl4]
          exact ⟨none, 0, rfl, LS.nil _ _ _, fun h => (h rfl).elim, y2⟩
        · have hmany' : ¬ (500 : Int) < (J.bs.length : Int) := by omega
          have hlJ : limH J = (J, 0) := by unfold limH; rw [if_neg (by rw [HJ1.out.2.1]; omega)]
          have HLJ := Lib.hid hlJ
          clear hlJ
          gi_wp2_with fail
          refine ⟨trivial, ?_⟩
          refine (keys_any _ _).mono ?_
          rintro e w' ⟨rfl, rfl⟩
          gi_wp2_with fail
          refine ⟨trivial, ?_⟩
          refine (sortedKeys_any J.bs (by omega) vb 1000 Z HCM3.out).mono ?_
          rintro e X ⟨v, rfl, hrow, hbX⟩
          have hbZX : Below Z.heap.size Z X := ((Below.refl _ Z).alloc (Nat.le_refl _) _).trans (hbX.mono (Nat.le_succ _))
          have hrw : X.ownsRow (Z.heap.size + 1) 3 1 v (J.bs.map (·.1)).length ((J.bs.map (·.1)).map encZ) := by rw [List.length_map]; exact hrow
          obtain ⟨A, cp, rfl, hkeys⟩ := row_form hrw
          have hD0Z : D0 < Z.heap.size := (Array.getElem?_eq_some_iff.1 HKD0.out).1
          have hD1Z : D1 < Z.heap.size := (Array.getElem?_eq_some_iff.1 HKD1.out).1
          have HCX := Lib.hid (HCM3.out.same (hbZX.block vb (by omega)))
          have HKTX : Hid (Boxed X (vb + 1) 86 (.map (some vb))) := Lib.hid ((hbZX.block (vb + 1) (by omega)).trans HKT3.out)
          have HKHX := Lib.hid ((hbZX.block h (by omega)).trans HKH3.out)
          have HKRX := Lib.hid ((hbZX.block (w.heap.size + 1 + 1) (by omega)).trans HKR3.out)
          have HKX0 := Lib.hid ((hbZX.block D0 hD0Z).trans HKD0.out)
          have HKX1 := Lib.hid ((hbZX.block D1 hD1Z).trans HKD1.out)
          have HBX := Lib.hid (HBZ.out.trans (hbZX.mono HBZ.out.size))
          have hZX := hbZX.size
          have HKS := Lib.hid hkeys
          have haJ : Asc J.bs := by obtain ⟨D, _, ⟨ha, _⟩, _⟩ := HCM3.out; exact ha
          clear hrow hrw hbX hbZX hkeys HKD0 HKD1 HKT3 HKH3 HKR3 HBZ HCM3 hct hch hml r0 r1 r2 r3 r4 r5 rf0 rf1 rf2 rf3 rf4 rf5
          rw [List.length_map]
          gi_wp2
          gi_loopw [74] (fun vi wr => ∃ (k : Nat) (s : Value), k ≤ J.bs.length ∧ vi = .int .i64 k ∧ Hid (OwnB wr X.heap.size s (J.bs.take k)) ∧ Hid (wr.heap[h]? = some (.cells #[.int .i64 (min p1 p2), .int .i64 (IntKind.i64.wrap (k1 + k2)), .int .i64 (IntKind.i64.wrap (s1 + s2)), .int .i64 z, .int .i64 (max m1 m2), s] 29 (0, 0))) ∧ Hid (But X.heap.size h X wr)) (fun vi _ => J.bs.length - (intOf vi).toNat)
          case atStart => exact ⟨0, .slice none 0 0, Nat.zero_le _, rfl, OwnB.nil _ _, HKHX.out, But.refl _ _ _⟩
          case round =>
            obtain ⟨k, s, hk, rfl, HO, HH, HBt⟩ := hrel
            have hsz := HBt.out.size
            by_cases hlt : k < J.bs.length
            · obtain ⟨g, rfl, hg1, hg2, hc⟩ := HKS.out k (by rw [List.length_map]; exact hlt)
              have hcell : wr.cell? ⟨g, k, none⟩ = some (.int .i64 J.bs[k].1) := (World.cell?_of_block (HBt.out.block g hg2 (by omega))).trans (by simpa using hc)
              have hkin := HCX.out.keyIn (List.getElem_mem hlt)
              have hlook := (HCX.out.same (HBt.out.block vb (by omega) (by omega))).look hkin
              rw [cf_at haJ k hlt] at hlook
              have kt : Boxed wr (vb + 1) 86 (.map (some vb)) := (HBt.out.block (vb + 1) (by omega) (by omega)).trans HKTX.out
              have hct := kt.cell
              have hh := HH.out
              have hh5 : wr.cell? ⟨h, 5, none⟩ = some s := by simp [World.cell?, hh]
              have HE := Lib.hid (take_snocB hlt)
              have hkl : (J.bs.take k).length = k := by rw [List.length_take]; omega
              have HKL := Lib.hid hkl
              obtain ⟨i0, hi, hz0, hz1, hz2⟩ := info_parts infoB
              have hki : (k : Int) < (J.bs.length : Int) := by omega
              generalize J.bs[k] = xx at *
              generalize J.bs.take k = tk at *
              clear hc hh kt hkl hkin
              refine wpIn_wide.2 ?_
              go_wp2_with (at_builtin; go_loud (refine wpList_append_own _ rfl (.tmp 79) (.tmp 85) 27 rfl X.heap.size 65 i0 _ 2 16 Try.underlying27 hi hz0 hz1 hz2 rfl (by decide) _ _ _ rfl (HO.out.below ((Below.refl _ _).alloc (Nat.le_refl _) _)) ⟨wr.heap.size, 0, none⟩ 1 1 [.int .i64 xx.1, .int .i64 xx.2] rfl rfl (cell_two_new _ _ _ _) (by simp [Value.oneCell']) (by rw [HKL.out]; simp only [maxLen]; omega) (by rw [HKL.out]; omega) (by simp; omega) ?_; intro v' w1 hown' hgrow _; obtain ⟨Av, cv, ev, -⟩ := (ownB_snoc hown').form; rw [List.length_append, List.length_singleton] at ev; subst ev; have HO' := Lib.hid hown'; have HG := Lib.hid hgrow; have HR1 := Lib.hid (row_after (h := h) HH.out HO.out hgrow (by omega) (by omega)); have c5 := HR1.out.2.1; have f5 := HR1.out.2.2; clear hown' hgrow))
              have hsz1 := HG.out.size
              have B1 : But X.heap.size h X (w1.setCell ⟨h, 5, none⟩ (.slice Av (tk.length + 1) cv)) := ((HBt.out.below hsz ((Below.refl _ wr).alloc (Nat.le_refl _) (.cells #[.int .i64 xx.1, .int .i64 xx.2] 65))).grown (by simp; omega) HG.out (fun r e => .inr (World.ownsRow.lt HO.out r e).1)).set
              have O1 : OwnB (w1.setCell ⟨h, 5, none⟩ (.slice Av (tk.length + 1) cv)) X.heap.size (.slice Av (tk.length + 1) cv) (tk ++ [xx]) := ownB_snoc (ownsRow_setCell_below HO'.out (a := ⟨h, 5, none⟩) (by show h < X.heap.size; omega) _)
              have R1 : (w1.setCell ⟨h, 5, none⟩ (.slice Av (tk.length + 1) cv)).heap[h]? = some (.cells #[.int .i64 (min p1 p2), .int .i64 (IntKind.i64.wrap (k1 + k2)), .int .i64 (IntKind.i64.wrap (s1 + s2)), .int .i64 z, .int .i64 (max m1 m2), (.slice Av (tk.length + 1) cv)] 29 (0, 0)) := by have e := HR1.out.1; simp [World.setCell, Array.getElem?_modify, e]
              go_roundw
              case rel => exact ⟨k + 1, (.slice Av (tk.length + 1) cv), by omega, by go_num, by rw [HE.out]; exact O1, R1, B1⟩
              case measure => simp [intOf]; omega
            · obtain rfl : k = J.bs.length := by omega
              have hO := HO.out
              rw [List.take_length] at hO
              have hhr := HH.out
              rw [hbw2, hbs2] at hhr
              obtain ⟨A', c', rfl, -⟩ := hO.form
              have HO2 := Lib.hid hO
              obtain ⟨q0, q1, q2, q3, q4, q5⟩ := hist_cells hhr
              have hrr := (HBt.out.block (w.heap.size + 1 + 1) (by omega) (by omega)).trans HKRX.out
              have hd0 := (HBt.out.block D0 (by omega) (by omega)).trans HKX0.out
              have hd1 := (HBt.out.block D1 (by omega) (by omega)).trans HKX1.out
              have hBw : Below w.heap.size w wr := HBt.out.all HBX.out (by omega) (by omega)
              obtain ⟨r0, r1, r2, r3, r4, r5⟩ := hist_cells hrr
              have rf : ∀ j, wr.frozen? ⟨w.heap.size + 1 + 1, j, none⟩ = false := fun j => by simp [World.frozen?, hrr]
              have rf0 := rf 0
              have rf1 := rf 1
              have rf2 := rf 2
              have rf3 := rf 3
              have rf4 := rf 4
              have rf5 := rf 5
              have HRR := Lib.hid hrr
              have HD0' := Lib.hid hd0
              have HD1' := Lib.hid hd1
              have HBW' := Lib.hid hBw
              clear hO hhr hrr hd0 hd1 hBw rf HO HH
              gi_wp2
              obtain ⟨y0, y1, y2, hy⟩ := six_end HRR.out HBW'.out (by omega) HD0'.out HD1'.out hD01 hrD0 hrD1 (by omega) (by omega) (.int .i64 (min p1 p2)) (.int .i64 (k1 + k2)) (.int .i64 (s1 + s2)) (.int .i64 z) (.int .i64 (max m1 m2)) (.slice A' J.bs.length c')
              obtain ⟨z0, z1, z2, z3, z4, z5⟩ := hist_cells hy
              refine ⟨by simp, .inl ⟨_, _, rfl, run_takeDeferred y0, ?_⟩⟩
              refine ⟨by simp, .inl ⟨_, _, rfl, run_takeDeferred y1, ?_⟩⟩
              refine ⟨.tuple #[hV (min p1 p2) (k1 + k2) (s1 + s2) z (max m1 m2) A' J.bs.length c', .int .i64 0], by simp [results, Try.f42, go_sem, z0, z1, z2, z3, z4, z5], ?_⟩
              have hfin := HO2.out.high (W' := (((((((wr.setCell ⟨w.heap.size + 1 + 1, 0, none⟩ (.int .i64 (min p1 p2))).setCell ⟨w.heap.size + 1 + 1, 1, none⟩ (.int .i64 (k1 + k2))).setCell ⟨w.heap.size + 1 + 1, 2, none⟩ (.int .i64 (s1 + s2))).setCell ⟨w.heap.size + 1 + 1, 3, none⟩ (.int .i64 z)).setCell ⟨w.heap.size + 1 + 1, 4, none⟩ (.int .i64 (max m1 m2))).setCell ⟨w.heap.size + 1 + 1, 5, none⟩ (.slice A' J.bs.length c')).putObj D1 (.deferred none)).putObj D0 (.deferred none)) (fun q hq => (World.putObj_heap_other (by omega)).trans ((World.putObj_heap_other (by omega)).trans (six_other (by omega) _ _ _ _ _ _)))
              obtain ⟨A2', c2', e2, hLS⟩ := hfin.form
              injection e2 with e3 e4 e5
              subst e3
              rw [HLJ.out]
              exact ⟨A', c', by rw [HJ1.out.1, HJ1.out.2.1, HJ1.out.2.2.1, HJ1.out.2.2.2.1, HJ1.out.2.2.2.2.1]; rfl, hLS, fun hne => by obtain ⟨b, o, e, g⟩ := hfin.ge hne; exact ⟨b, o, e, by omega⟩, y2⟩
end Go.Proofs.Ytffnopdpndpngaa.Lh
