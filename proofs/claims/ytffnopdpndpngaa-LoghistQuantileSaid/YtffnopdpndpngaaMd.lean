/- Layer 12: the program's withRank. -/
import Derived.Test.YtffnopdpndpngaaMc
set_option linter.unusedVariables false
set_option linter.unusedSimpArgs false
namespace Go.Proofs.Ytffnopdpndpngaa.Lh
open Go.RowKit Go.Shelf
attribute [local go_sem] Oper.semAt_some
def qItem (rk : Int) : List It → Int × Int
  | [] => (0, 0)
  | q :: r => if rk ≤ q.2.2.2 then (q.2.1, q.2.2.1) else qItem rk r
theorem qItem_skip {rk : Int} : ∀ {a : List It} (b : List It), (∀ q ∈ a, q.2.2.2 < rk) → qItem rk (a ++ b) = qItem rk b
  | [], _, _ => rfl
  | q :: r, b, h => by
    have h1 := h q (List.mem_cons_self ..)
    show (if rk ≤ q.2.2.2 then (q.2.1, q.2.2.1) else qItem rk (r ++ b)) = _
    rw [if_neg (by omega)]
    exact qItem_skip b fun x hx => h x (List.mem_cons_of_mem _ hx)
theorem qItem_none {rk : Int} {a : List It} (h : ∀ q ∈ a, q.2.2.2 < rk) : qItem rk a = (0, 0) := by
  have := qItem_skip [] h
  rw [List.append_nil] at this
  exact this
def lst (l : List It) : It := l.getLastD (0, 0, 0, 0)
theorem lst_snoc (l : List It) (q : It) : lst (l ++ [q]) = q := by unfold lst; simp
/-- The last of these is the first that reaches the rank. -/
def Hit (rk : Int) (l : List It) : Prop := ∃ a q, l = a ++ [q] ∧ rk ≤ q.2.2.2 ∧ ∀ x ∈ a, x.2.2.2 < rk
theorem Hit.item {rk : Int} {l m : List It} (h : Hit rk l) (hp : l <+: m) : qItem rk m = ((lst l).2.1, (lst l).2.2.1) := by
  obtain ⟨a, q, rfl, h1, h2⟩ := h
  obtain ⟨t, rfl⟩ := hp
  rw [List.append_assoc, qItem_skip _ h2, lst_snoc]
  show (if rk ≤ q.2.2.2 then _ else _) = _
  rw [if_pos h1]
/-- None of these reaches the rank. -/
def Low (rk : Int) (l : List It) : Prop := ∀ q ∈ l, q.2.2.2 < rk
/-- A region that ends in one way alone, in whatever order it goes, and that may write. -/
theorem region_end {F : Fence} {n : Nat} {P : Program} {c : Code} {Q : Exit → Act → World → Prop} {a a' : Act} {W V : World} (h : Q Exit.normal a' V) (hr : Q Exit.normal a' V → Code.wpIn F n P c Q a W) : Code.wpIn F n P c Q a W := hr h
set_option maxRecDepth 100000 in
set_option maxHeartbeats 4000000 in
theorem withRank_any (p cc ss mn mx rk : Int) (l : List B) (hl : l.length ≤ 500) (hp : 0 ≤ p ∧ p ≤ 8) (hr : ∀ x ∈ l, 0 ≤ x.1 ∧ x.1 ≤ topI p) (hpos : Pos l) (ht : tot l ≤ 1048576)
    (A : Option Addr) (c : Nat) (w : World) (hA : LS w w.heap.size A l) :
    Calls Try.prog 50 #[hV p cc ss mn mx A l.length c, .int .i64 rk] w fun e w' => e = .returned (.tuple #[.int .i64 (qItem rk (its p mn mx 0 l)).1, .int .i64 (qItem rk (its p mn mx 0 l)).2]) ∧ Below w.heap.size w w' := by
  have hmix : Try.prog.follows .mixedOrders = true := by kernel_rfl
  obtain ⟨H, hH⟩ : ∃ H : Obj, H = .cells #[.int .i64 p, .int .i64 cc, .int .i64 ss, .int .i64 mn, .int .i64 mx, .slice A l.length c] 29 := ⟨_, rfl⟩
  obtain ⟨W1, hW1⟩ : ∃ W1, W1 = (((w.alloc H).alloc (.cells #[.int .i64 rk] 3)).alloc (.cells #[.int .i64 0] 3)).alloc (.cells #[.int .i64 0] 3) := ⟨_, rfl⟩
  have hs1 : w.heap.size + 4 ≤ W1.heap.size := by rw [hW1]; simp only [World.size_alloc]; omega
  have B1 : Below w.heap.size w W1 := by rw [hW1]; exact ((((Below.refl _ w).alloc (Nat.le_refl _) _).alloc (by simp) _).alloc (by simp; omega) _).alloc (by simp; omega) _
  have kr : Boxed W1 (w.heap.size + 1) 3 (.int .i64 rk) := by
    rw [hW1]
    have h := Boxed.new (w.alloc H) 3 (.int .i64 rk)
    simpa only [World.size_alloc] using (h.alloc _).alloc _
  have k4 : Boxed W1 (w.heap.size + 1 + 1) 3 (.int .i64 0) := by
    rw [hW1]
    have h := Boxed.new ((w.alloc H).alloc (.cells #[.int .i64 rk] 3)) 3 (.int .i64 0)
    simpa only [World.size_alloc] using h.alloc _
  have k5 : Boxed W1 (w.heap.size + 1 + 1 + 1) 3 (.int .i64 0) := by
    rw [hW1]
    have h := Boxed.new (((w.alloc H).alloc (.cells #[.int .i64 rk] 3)).alloc (.cells #[.int .i64 0] 3)) 3 (.int .i64 0)
    simpa only [World.size_alloc] using h
  subst hH
  have HW1 := Lib.hid hW1.symm
  clear hW1
  refine (callsIn_wide (n := 6)).1 ?_
  refine callsIn_of_wp_marks Try.func50 rfl trivial ?_ rfl
  simp only [Try.ntmps50, List.size_toArray, List.length_cons, List.length_nil, Nat.reduceAdd, Nat.reduceSub, Array.replicate_succ, Array.replicate_zero, List.push_toArray, List.append_toArray, List.nil_append, List.cons_append]
  gi_wp2_with fail
  refine ⟨trivial, ?_⟩
  rw [HW1.out]
  clear HW1
  refine (asc_in _ p cc ss mn mx A l.length c _).mono ?_
  rintro e w' ⟨rfl, rfl⟩
  gi_wp2_with fail
  obtain ⟨H, hH⟩ : ∃ H : Obj, H = .cells #[.int .i64 p, .int .i64 cc, .int .i64 ss, .int .i64 mn, .int .i64 mx, .slice A l.length c] 29 := ⟨_, rfl⟩
  have hbl := HC.new W1 29 p cc ss mn mx A l.length c
  rw [← hH] at hbl ⊢
  clear hH
  have KR : Hid (Boxed (W1.alloc H) (w.heap.size + 1) 3 (.int .i64 rk)) := kr.alloc _
  have K4 : Hid (Boxed (W1.alloc H) (w.heap.size + 1 + 1) 3 (.int .i64 0)) := k4.alloc _
  have K5 : Hid (Boxed (W1.alloc H) (w.heap.size + 1 + 1 + 1) 3 (.int .i64 0)) := k5.alloc _
  have HB0 : Hid (Below w.heap.size w (W1.alloc H)) := B1.alloc B1.size _
  have hz0 : (W1.alloc H).heap.size = W1.heap.size + 1 := by simp only [World.size_alloc]
  clear kr k4 k5 B1
  generalize W1.alloc H = W0 at *
  obtain ⟨b1, o, hL, hlt1, hor⟩ := liesH_new p cc ss mn mx l A c w W0 W1.heap.size hA HB0.out hbl (by omega)
  have h14 : b1 ≠ w.heap.size + 1 + 1 := by omega
  have h15 : b1 ≠ w.heap.size + 1 + 1 + 1 := by omega
  have h24 : W1.heap.size ≠ w.heap.size + 1 + 1 := by omega
  have h25 : W1.heap.size ≠ w.heap.size + 1 + 1 + 1 := by omega
  have hlt4 := K4.out.lt
  have hlt5 := K5.out.lt
  have hltr := KR.out.lt
  have ST := Lib.hid (asc_stops (fun _ => True) 5 (by omega) b1 W1.heap.size o c p cc ss mn mx A l hl hp hr hpos ht (fun _ _ => trivial) W0 hlt1 (by omega) hL)
  clear hL hbl hA hr hpos ht
  refine wpIn_rangeFunc_ownH rfl (by omega) (gf := 80) (lb := #[.pointer (some ⟨W1.heap.size, 0, none⟩)]) rfl trivial (enters_of Try.func80 (by kernel_rfl) rfl)
    ST.out (fun h k => h.trans k) (fun W lq oq oq' hlq hq hc hw => KK.put (by omega) (by omega)) (Below.refl _ _) (fun _ => rfl)
    (fun pre W => Low rk (valQ pre) ∧ Below W0.heap.size W0 W)
    (fun co pre W => ((co = .ret ∧ Hit rk (valQ pre)) ∧ Boxed W (w.heap.size + 1 + 1) 3 (.int .i64 (lst (valQ pre)).2.1) ∧ Boxed W (w.heap.size + 1 + 1 + 1) 3 (.int .i64 (lst (valQ pre)).2.2.1)) ∧ Below w.heap.size w W)
    (OwnFrom.and (ownFrom_pure _ _) (ownFrom_below (Nat.le_refl _) (Nat.le_refl _)))
    (fun co => OwnFrom.and (OwnFrom.and (ownFrom_pure _ _) (OwnFrom.and (Own.from (boxed_own _ _ (fun _ => _)) _) (Own.from (boxed_own _ _ (fun _ => _)) _))) (ownFrom_below (Nat.le_refl _) HB0.out.size))
    ⟨fun p hp => by simp [valQ] at hp, Below.refl _ _⟩
    (fun x a' W => ∃ Bp, W1.heap.size < Bp ∧ W.heap[Bp]? = some (.cells #[.int .i64 x.1.1, .int .i64 x.1.2.1, .int .i64 x.1.2.2.1] 79 (0, 0)) ∧ a' = { tmps := #[hV p cc ss mn mx A l.length c, .int .i64 rk, .pointer (some ⟨w.heap.size, 0, none⟩), .pointer (some ⟨w.heap.size + 1, 0, none⟩), .pointer (some ⟨w.heap.size + 1 + 1, 0, none⟩), .pointer (some ⟨w.heap.size + 1 + 1 + 1, 0, none⟩), .pointer (some ⟨Bp, 0, none⟩), .int .i64 x.1.2.2.2, hV p cc ss mn mx A l.length c, .func (.func 80) #[] #[.pointer (some ⟨W1.heap.size, 0, none⟩)], .agg #[.int .i64 x.1.1, .int .i64 x.1.2.1, .int .i64 x.1.2.2.1], .int .i64 x.1.2.2.2, undef, undef, undef, undef, undef, undef, undef], defers := [] })
    (fun x a' _ A B row hs hg hr => by
      obtain ⟨Bp, i1, i2, i3⟩ := hs
      exact ⟨Bp, i1, row_own (β := Unit) Bp _ (fun _ => _) () A B row i2 hg (fun r e => (hr r e).2), i3⟩)
    ?assign ?body ?done ?stop
  case assign =>
    rintro lc pre x W K ⟨i1, i2⟩ hK
    have hle := i2.size
    gi_wp2
    refine hK _ _ ((KeepsOthers.alloc _ _).from _) (KK.al _ (by omega) (by omega)) ⟨i1, i2.alloc hle _⟩ ⟨W.heap.size, by omega, heap_alloc_new _ _, rfl⟩
  case body =>
    rintro lc pre x a' W hlc _ ⟨i1, i2⟩ ⟨Bp, j1, j2, rfl⟩ hlt
    have hvs := valQ_snoc pre x
    obtain ⟨⟨xc, xl, xh, xu⟩, hx⟩ := x
    dsimp only at hvs j2 ⊢
    obtain ⟨p0, p1, p2⟩ := cells3' j2
    have hle := i2.size
    have kr : Boxed W (w.heap.size + 1) 3 (.int .i64 rk) := (i2.block _ KR.out.lt).trans KR.out
    have k4 : Boxed W (w.heap.size + 1 + 1) 3 (.int .i64 0) := (i2.block _ K4.out.lt).trans K4.out
    have k5 : Boxed W (w.heap.size + 1 + 1 + 1) 3 (.int .i64 0) := (i2.block _ K5.out.lt).trans K5.out
    have hcr := kr.cell
    have hc4 := k4.cell
    have hf4 := k4.frozen
    have hc5 := k5.cell
    have hf5 := k5.frozen
    by_cases hq : rk ≤ xu
    · have HV : Hid (Hit rk (valQ (pre ++ [⟨(xc, xl, xh, xu), hx⟩]))) := Lib.hid ⟨valQ pre, (xc, xl, xh, xu), hvs, hq, i1⟩
      have HL : Hid (lst (valQ (pre ++ [⟨(xc, xl, xh, xu), hx⟩])) = (xc, xl, xh, xu)) := Lib.hid (by rw [hvs, lst_snoc])
      have TB := Lib.hid (two_cells k4 k5 (by omega) (.int .i64 xl) (.int .i64 xh))
      have HB := Lib.hid (HB0.out.trans (i2.mono HB0.out.size))
      clear hvs i1 i2 k4 k5 kr
      gi_wp2
      apply region_end
      case hr => intro h; gi_region_o; all_goals exact h
      gi_wp2
      refine ⟨(keeps_drew ((KeepsOthers.setCell _ _ _).trans (KeepsOthers.setCell _ _ _))).from _, ⟨⟨rfl, HV.out⟩, ?_, ?_⟩, bel_drew ((HB.out.setCell (p := ⟨w.heap.size + 1 + 1, 0, none⟩) (by simp; omega) _).setCell (p := ⟨w.heap.size + 1 + 1 + 1, 0, none⟩) (by simp; omega) _)⟩
      · rw [HL.out]; exact boxed_drew TB.out.1
      · rw [HL.out]; exact boxed_drew TB.out.2
    · have HV : Hid (Low rk (valQ (pre ++ [⟨(xc, xl, xh, xu), hx⟩]))) := Lib.hid fun q hm => by
        rw [hvs] at hm
        rcases List.mem_append.1 hm with h | h
        · exact i1 q h
        · rw [List.mem_singleton.1 h]
          show xu < rk
          omega
      clear hvs i1 k4 k5 kr
      gi_wp2
      exact ⟨KeepsFrom.refl _ _, KK.refl _ _ _, HV.out, by rw [← hz0]; exact i2⟩
  case done =>
    rintro D zs W hD hzs ⟨i1, i2⟩ hK
    rw [hzs] at i1
    have k4 : Boxed W (w.heap.size + 1 + 1) 3 (.int .i64 0) := (i2.block _ K4.out.lt).trans K4.out
    have k5 : Boxed W (w.heap.size + 1 + 1 + 1) 3 (.int .i64 0) := (i2.block _ K5.out.lt).trans K5.out
    have z4 := k4.cell
    have f4 := k4.frozen
    have z5 := k5.cell
    have f5 := k5.frozen
    have HB := Lib.hid (HB0.out.trans (i2.mono HB0.out.size))
    have HE := Lib.hid (qItem_none i1)
    have TB := two_cells k4 k5 (by omega) (.int .i64 0) (.int .i64 0)
    have hK' := ((KeepsOthers.setCell W ⟨w.heap.size + 1 + 1, 0, none⟩ (.int .i64 0)).trans (KeepsOthers.setCell _ ⟨w.heap.size + 1 + 1 + 1, 0, none⟩ (.int .i64 0))).same D _ hK rfl
    have y4 := cell_kept TB.1.cell (grownBy_putObj' _ D (.deferred none)) (fun r e => by cases e; exact ⟨_, hK', rfl⟩)
    have y5 := cell_kept TB.2.cell (grownBy_putObj' _ D (.deferred none)) (fun r e => by cases e; exact ⟨_, hK', rfl⟩)
    clear k4 k5 TB i1 i2
    gi_wp2
    refine ⟨by simp, .inl ⟨_, _, rfl, run_takeDeferred hK', ?_⟩⟩
    refine ⟨.tuple #[.int .i64 0, .int .i64 0], by simp [results, Try.f50, go_sem, y4, y5], ?_⟩
    rw [HE.out]
    exact ⟨rfl, ((HB.out.setCell (p := ⟨w.heap.size + 1 + 1, 0, none⟩) (by simp; omega) _).setCell (p := ⟨w.heap.size + 1 + 1 + 1, 0, none⟩) (by simp; omega) _).trans (belowK_b (w := w) (Nat.le_refl _) _ D _ _ (by omega) hK' rfl rfl)⟩
  case stop =>
    rintro D co pre W hD hpre ⟨⟨⟨rfl, hh⟩, k4, k5⟩, i2⟩ hK
    have HE := Lib.hid (hh.item hpre)
    have y4 := cell_kept k4.cell (grownBy_putObj' _ D (.deferred none)) (fun r e => by cases e; exact ⟨_, hK, rfl⟩)
    have y5 := cell_kept k5.cell (grownBy_putObj' _ D (.deferred none)) (fun r e => by cases e; exact ⟨_, hK, rfl⟩)
    clear hpre
    gi_wp2
    refine ⟨by simp, .inl ⟨_, _, rfl, run_takeDeferred hK, ?_⟩⟩
    refine ⟨.tuple #[.int .i64 (lst (valQ pre)).2.1, .int .i64 (lst (valQ pre)).2.2.1], by simp [results, Try.f50, go_sem, y4, y5], ?_⟩
    rw [HE.out]
    exact ⟨rfl, i2.trans (belowK_b (w := w) (Nat.le_refl _) W D _ (.deferred none) (by omega) hK rfl rfl)⟩
end Go.Proofs.Ytffnopdpndpngaa.Lh
