/- Layer 11: the program's Increase and Resets. -/
import Derived.Test.YtobipbedkkmlcaaTaG
set_option linter.unusedVariables false
set_option linter.unusedSimpArgs false
namespace Go.Proofs.Ytobipbedkkmlcaa.Sr
open Go.RowKit Go.Shelf
attribute [local go_sem] Oper.semAt_some
theorem keeps_below {W W' : World} (h : Below W.heap.size W W') : KeepsOthers W W' := ⟨h.size, fun k o hk _ => (h.block k (Array.getElem?_eq_some_iff.1 hk).1).trans hk⟩
theorem boxed_below {W W' : World} {b : Nat} {t : TypeId} {v : Value} (h : Boxed W b t v) (hb : Below W.heap.size W W') : Boxed W' b t v := (hb.block b h.lt).trans h
theorem cells2' {W : World} {b : Nat} {u v : Value} {t : TypeId} (h : W.heap[b]? = some (.cells #[u, v] t (0, 0))) : W.cell? ⟨b, 0, none⟩ = some u ∧ W.cell? ⟨b, 1, none⟩ = some v := by simp [World.cell?, h]
theorem row_own {β : Type} (b : Nat) (t : TypeId) (f : β → Array Value) : Own (fun s W => W.heap[b]? = some (.cells (f s) t (0, 0))) := fun s X Y row hs hg hrow =>
  (hg.block b (Array.getElem?_eq_some_iff.1 hs).1 (fun e' => by obtain ⟨o, ho, hc⟩ := hrow b e'.symm; rw [hs] at ho; cases ho; cases hc)).trans hs
theorem nb_in (dp : Nat) (a : Option Addr) (n c : Nat) (w : World) :
    CallsIn Fence.wide dp Try.prog 36 #[.slice a n c] w fun e w' => e = .returned (.func (.func 50) #[] #[.pointer (some ⟨w.heap.size, 0, none⟩)]) ∧ w' = w.alloc (.cells #[.slice a n c] 22) := by
  refine callsIn_of_wp Try.func36 rfl trivial ?_ rfl
  simp only [Try.ntmps36, List.size_toArray, List.length_cons, List.length_nil, Nat.reduceAdd, Nat.reduceSub, Array.replicate_succ, Array.replicate_zero, List.push_toArray, List.append_toArray, List.nil_append, List.cons_append]
  gi_wp2
  go_ret
  exact ⟨rfl, rfl⟩
theorem nb_stops (R : S × S → Prop) (n : Nat) (hn : 1 ≤ n) (b1 b2 o c : Nat) (a : Option Addr) (l : List S) (hl : l.length ≤ 100000) (hR : ∀ p ∈ nbs l, R p) (w : World) (h1 : b1 < w.heap.size) (h2 : b2 < w.heap.size) (hL : LiesS b1 b2 o c a l w) :
    SeqStopsK Fence.wide n Try.prog 50 #[.pointer (some ⟨b2, 0, none⟩)] encP (KK b1 b2) (fun (ys : List (PE R)) => valP ys = nbs l) (fun pre => valP pre <+: nbs l) l.length w := fun lc J Jx W hW hJ _ hY h0 =>
  nb1_in R n hn lc b1 b2 o c a l hl hR J Jx W.heap.size hJ W (Nat.le_refl _) hY (hL.kept ⟨hW.block b1 h1, hW.block b2 h2⟩) h0
theorem reset_any (x y : S) (w : World) : Calls Try.prog 37 #[smpV x, smpV y] w fun e w' => e = .returned (.bool (decide (y.2 < x.2))) ∧ Below w.heap.size w w' := by
  go_enter Try.func37, Try.ntmps37
  go_wp2
  go_ret
  exact ⟨rfl, ((Below.refl _ w).alloc (Nat.le_refl _) _).alloc (by simp) _⟩
/-- Values that a counter may have. -/
def Cnt (p : S × S) : Prop := (0 ≤ p.1.2 ∧ p.1.2 ≤ 1099511627776) ∧ (0 ≤ p.2.2 ∧ p.2.2 ≤ 1099511627776)
def sumP (l : List (S × S)) : Int := (l.map fun p => step p.1.2 p.2.2).sum
def rstP (l : List (S × S)) : Nat := l.countP fun p => decide (p.2.2 < p.1.2)
theorem nbs_cons (x y : S) (r : List S) : nbs (x :: y :: r) = (x, y) :: nbs (y :: r) := rfl
theorem sum_nbs : ∀ l : List S, sumP (nbs l) = incF l
  | [] => by simp [nbs, sumP, incF]
  | [x] => by simp [nbs, sumP, incF]
  | x :: y :: r => by
    rw [inc_cons, ← sum_nbs (y :: r), nbs_cons]
    unfold sumP
    rw [List.map_cons, List.sum_cons]
theorem rst_nbs : ∀ l : List S, rstP (nbs l) = rstF l
  | [] => by simp [nbs, rstP, rstF]
  | [x] => by simp [nbs, rstP, rstF]
  | x :: y :: r => by
    rw [rst_cons, ← rst_nbs (y :: r), nbs_cons]
    unfold rstP
    rw [List.countP_cons]
    by_cases h : y.2 < x.2 <;> simp [h] <;> omega
theorem sumP_snoc (l : List (S × S)) (p : S × S) : sumP (l ++ [p]) = sumP l + step p.1.2 p.2.2 := by
  unfold sumP
  simp
theorem rstP_snoc (l : List (S × S)) (p : S × S) : rstP (l ++ [p]) = rstP l + (if p.2.2 < p.1.2 then 1 else 0) := by
  unfold rstP
  rw [List.countP_append]
  by_cases h : p.2.2 < p.1.2 <;> simp [h]
theorem sumP_bound : ∀ pre : List (PE Cnt), 0 ≤ sumP (valP pre) ∧ sumP (valP pre) ≤ 1099511627776 * pre.length
  | [] => by simp [valP, sumP]
  | x :: r => by
    have h := sumP_bound r
    have e : sumP (valP (x :: r)) = step x.1.1.2 x.1.2.2 + sumP (valP r) := by simp [valP, sumP]
    have hx := x.2
    unfold Cnt at hx
    rw [e, List.length_cons]
    unfold step
    split <;> constructor <;> omega
theorem rstP_bound (pre : List (PE Cnt)) : rstP (valP pre) ≤ pre.length := by
  rw [← valP_length pre]
  exact List.countP_le_length
theorem nbs_cnt {l : List S} (h : chk 2 l = 0) : ∀ p ∈ nbs l, Cnt p := fun p hp => by
  have hg := (chk_two.1 h).2
  have h1 := List.of_mem_zip (show (p.1, p.2) ∈ l.zip l.tail from hp)
  have k1 := hg.1 _ h1.1
  have k2 := hg.1 _ (List.mem_of_mem_tail h1.2)
  have j1 := okS_iff.1 k1.1
  have j2 := okS_iff.1 k2.1
  have i1 := k1.2 rfl
  have i2 := k2.2 rfl
  exact ⟨⟨i1, by omega⟩, ⟨i2, by omega⟩⟩
theorem inc_bad {l : List S} (h : chk 2 l ≠ 0) : incO l = 0 := if_pos h
theorem inc_good {l : List S} (h : chk 2 l = 0) : incO l = incF l := if_neg (by omega)
theorem rst_bad {l : List S} (h : chk 2 l ≠ 0) : rstO l = 0 := if_pos h
theorem rst_good {l : List S} (h : chk 2 l = 0) : rstO l = rstF l := if_neg (by omega)
/-- The list under its box lies. -/
theorem lies_new (l : List S) (A : Option Addr) (c : Nat) (w V : World) (b2 : Nat) (hA : LS w w.heap.size A l) (hb : Below w.heap.size w V) (h2 : V.cell? ⟨b2, 0, none⟩ = some (.slice A l.length c)) (hlt : b2 < V.heap.size) : ∃ b1 o, LiesS b1 b2 o c A l V ∧ b1 < V.heap.size ∧ (b1 < w.heap.size ∨ b1 = b2) := by
  by_cases hn : l = []
  · subst hn
    exact ⟨b2, 0, ⟨h2, fun h => by simp at h, fun j h => by simp at h⟩, hlt, .inr rfl⟩
  · obtain ⟨b, off, rfl, hbl, hc⟩ := hA hn
    exact ⟨b, off, ⟨h2, fun _ => rfl, fun j hj => ⟨(hb.cell (p := ⟨b, off + j * 2, none⟩) hbl).trans (hc j hj).1, (hb.cell (p := ⟨b, off + j * 2 + 1, none⟩) hbl).trans (hc j hj).2⟩⟩, Nat.lt_of_lt_of_le hbl hb.size, .inl hbl⟩
set_option maxRecDepth 100000 in
set_option maxHeartbeats 4000000 in
theorem pIncrease_any (l : List S) (hl : l.length ≤ 100000) (A : Option Addr) (c : Nat) (w : World) (hA : LS w w.heap.size A l) :
    Calls Try.prog 17 #[.slice A l.length c] w fun e w' => e = .returned (.int .i64 (incO l)) ∧ Below w.heap.size w w' := by
  by_cases hc : chk 2 l ≠ 0
  · have C := Lib.hid (pCheck_any 2 l hl A c w hA)
    have HE := Lib.hid (inc_bad hc)
    have hcb : ((chk 2 l : Nat) : Int) ≠ 0 := by omega
    have hcq : (((chk 2 l : Nat) : Int) != 0) = true := by simpa using hc
    have hcq2 : (chk 2 l != 0) = true := by simpa using hc
    generalize chk 2 l = z at *
    clear hA
    go_enter Try.func17, Try.ntmps17
    go_wp2_with (go_at_call 12; (with_reducible refine C.out.mono ?_); rintro e w1 ⟨rfl, hb1⟩; have HB1 := Lib.hid hb1; clear hb1)
    go_ret
    rw [HE.out]
    exact ⟨rfl, HB1.out⟩
  have hc : chk 2 l = 0 := by omega
  have C := Lib.hid (pCheck_any 2 l hl A c w hA)
  rw [hc] at C
  rw [inc_good hc, ← sum_nbs l]
  have hcnt := nbs_cnt hc
  have hlen := (chk_two.1 hc).1
  clear hc
  refine (callsIn_wide (n := 6)).1 ?_
  refine callsIn_of_wp_marks Try.func17 rfl trivial ?_ rfl
  simp only [Try.ntmps17, List.size_toArray, List.length_cons, List.length_nil, Nat.reduceAdd, Nat.reduceSub, Array.replicate_succ, Array.replicate_zero, List.push_toArray, List.append_toArray, List.nil_append, List.cons_append]
  gi_wp2_with fail
  refine ⟨trivial, ?_⟩
  refine (callsIn_wide.2 C.out).mono ?_
  rintro e w1 ⟨rfl, hb1⟩
  gi_wp2_with fail
  refine ⟨trivial, ?_⟩
  refine (nb_in _ A l.length c _).mono ?_
  rintro e w' ⟨rfl, rfl⟩
  gi_wp2_with fail
  have hs1 := hb1.size
  have hbx : Boxed ((w1.alloc (.cells #[.int .i64 0] 3)).alloc (.cells #[.slice A l.length c] 22)) w1.heap.size 3 (.int .i64 0) := (Boxed.new w1 _ _).alloc _
  have hbl : ((w1.alloc (.cells #[.int .i64 0] 3)).alloc (.cells #[.slice A l.length c] 22)).cell? ⟨w1.heap.size + 1, 0, none⟩ = some (.slice A l.length c) := by go_simp
  have hB0 : Below w.heap.size w ((w1.alloc (.cells #[.int .i64 0] 3)).alloc (.cells #[.slice A l.length c] 22)) := (hb1.alloc hs1 _).alloc (by simp; omega) _
  have hz0 : ((w1.alloc (.cells #[.int .i64 0] 3)).alloc (.cells #[.slice A l.length c] 22)).heap.size = w1.heap.size + 2 := by simp only [World.size_alloc]
  generalize (w1.alloc (.cells #[.int .i64 0] 3)).alloc (.cells #[.slice A l.length c] 22) = W0 at *
  obtain ⟨b1, o, hL, hlt1, hor⟩ := lies_new l A c w W0 (w1.heap.size + 1) hA hB0 hbl (by omega)
  have hne1 : b1 ≠ w1.heap.size := by omega
  have hne2 : w1.heap.size + 1 ≠ w1.heap.size := by omega
  have KS : Hid (∀ W q, KK b1 (w1.heap.size + 1) W (W.setCell ⟨w1.heap.size, 0, none⟩ q)) := Lib.hid fun W q => ⟨by simp [World.setCell, Array.getElem?_modify, Ne.symm hne1], by simp [World.setCell, Array.getElem?_modify]⟩
  have KB : Hid (∀ W W', W0.heap.size ≤ W.heap.size → Below W.heap.size W W' → KK b1 (w1.heap.size + 1) W W') := Lib.hid fun W W' hs hb => ⟨hb.block b1 (by omega), hb.block _ (by omega)⟩
  have ST := Lib.hid (nb_stops Cnt 5 (by omega) b1 (w1.heap.size + 1) o c A l hl hcnt W0 hlt1 (by omega) hL)
  clear hL hbl hcnt hA
  refine wpIn_rangeFunc_ownH rfl (by omega) (gf := 50) (lb := #[.pointer (some ⟨w1.heap.size + 1, 0, none⟩)]) rfl trivial (enters_of Try.func50 (by kernel_rfl) rfl)
    ST.out (fun h k => h.trans k) (fun W lq oq oq' hlq hq hc hw => KK.put (by omega) (by omega)) (Below.refl _ _) (fun _ => rfl)
    (fun pre W => (Boxed W w1.heap.size 3 (.int .i64 (sumP (valP pre))) ∧ Below w.heap.size w W) ∧ W0.heap.size ≤ W.heap.size)
    (fun _ _ _ => False)
    (OwnFrom.and (OwnFrom.and (Own.from (boxed_own _ _ (fun (pre : List (PE Cnt)) => _)) _) (ownFrom_below (by omega) (by omega))) (fun s X Y row h hg hr => Nat.le_trans h hg.size))
    (fun c s A B row h hg hr => h)
    ⟨⟨hbx, hB0⟩, Nat.le_refl _⟩
    (fun x a' W => ∃ Bp Bx, w1.heap.size + 1 < Bp ∧ w1.heap.size + 1 < Bx ∧ W.heap[Bp]? = some (.cells #[.int .i64 x.1.1.1, .int .i64 x.1.1.2] 33 (0, 0)) ∧ W.heap[Bx]? = some (.cells #[.int .i64 x.1.2.1, .int .i64 x.1.2.2] 33 (0, 0)) ∧ a' = { tmps := #[.slice A l.length c, undef, .int .i64 0, .pointer (some ⟨w1.heap.size, 0, none⟩), .pointer (some ⟨Bp, 0, none⟩), .pointer (some ⟨Bx, 0, none⟩), .slice A l.length c, .int .i64 0, .bool false, .slice A l.length c, .func (.func 50) #[] #[.pointer (some ⟨w1.heap.size + 1, 0, none⟩)], .agg #[.int .i64 x.1.1.1, .int .i64 x.1.1.2], .agg #[.int .i64 x.1.2.1, .int .i64 x.1.2.2], undef, undef, undef, undef, undef, undef, undef, undef, undef, undef, undef, undef, undef], defers := [] })
    (fun x a' _ A B row hs hg hr => by
      obtain ⟨Bp, Bx, i1, i2, i3, i4, i5⟩ := hs
      exact ⟨Bp, Bx, i1, i2, row_own (β := Unit) Bp _ (fun _ => _) () A B row i3 hg (fun r e => (hr r e).2), row_own (β := Unit) Bx _ (fun _ => _) () A B row i4 hg (fun r e => (hr r e).2), i5⟩)
    ?assign ?body ?done ?stop
  case assign =>
    rintro lc pre x W K ⟨⟨i1, i2⟩, i3⟩ hK
    have hle := i2.size
    gi_wp2
    refine hK _ _ (((KeepsOthers.alloc _ _).trans (KeepsOthers.alloc _ _)).from _) ⟨(Below.heap_alloc _ _ _ (by simp; omega)).trans (Below.heap_alloc _ _ _ (by omega)), (Below.heap_alloc _ _ _ (by simp; omega)).trans (Below.heap_alloc _ _ _ (by omega))⟩ ⟨⟨(i1.alloc _).alloc _, (i2.alloc hle _).alloc (by simp; omega) _⟩, by simp; omega⟩ ⟨W.heap.size, W.heap.size + 1, by omega, by omega, ?_, ?_, rfl⟩
    · exact (Below.heap_alloc _ _ _ (by simp)).trans (heap_alloc_new _ _)
    · have h := heap_alloc_new (W.alloc (.cells #[.int .i64 x.1.1.1, .int .i64 x.1.1.2] 33)) (.cells #[.int .i64 x.1.2.1, .int .i64 x.1.2.2] 33)
      simpa only [World.size_alloc] using h
  case body =>
    rintro lc pre x a' W hlc _ ⟨⟨i1, i2⟩, i3⟩ ⟨Bp, Bx, j1, j2, j3, j4, rfl⟩ hlt
    have hsn := sumP_snoc (valP pre) x.1
    rw [← valP_snoc] at hsn
    have hbd := sumP_bound pre
    have hx := x.2
    unfold Cnt at hx
    obtain ⟨⟨⟨t1, v1⟩, ⟨t2, v2⟩⟩, hxx⟩ := x
    dsimp only at hsn hx j3 j4 ⊢
    generalize sumP (valP pre) = s at *
    have hpl : (1099511627776 * (pre.length : Int)) ≤ 1099511627776 * 2000 := by omega
    have hw1 : wrap64 (s + v2) = s + v2 := by unfold wrap64; omega
    have hw1' : IntKind.i64.wrap (s + v2) = s + v2 := by rw [IntWalk.i64_in _ (by omega)]
    have hw2 : wrap64 (s + v2 - v1) = s + v2 - v1 := by unfold wrap64; omega
    have hw2' : IntKind.i64.wrap (s + v2 - v1) = s + v2 - v1 := by rw [IntWalk.i64_in _ (by omega)]
    obtain ⟨p0, p1⟩ := cells2' j3
    obtain ⟨x0, x1⟩ := cells2' j4
    have hcs := i1.cell
    have hfs := i1.frozen
    have hle := i2.size
    have hnp : Bp ≠ w1.heap.size := by omega
    have hnx : Bx ≠ w1.heap.size := by omega
    have CR := Lib.hid (fun W' => CallsIn.inRound lc (callsIn_wide.2 (reset_any (t1, v1) (t2, v2) W') : CallsIn Fence.wide 3 _ _ _ _ _))
    have k1 := i1.set (.int .i64 (s + v2))
    have e1 : step v1 v2 = if v2 < v1 then v2 else v2 - v1 := rfl
    rw [e1] at hsn
    clear e1 hw1' hw2' hpl
    have HK0 : Hid (KK b1 (w1.heap.size + 1) W (W.setCell ⟨w1.heap.size, 0, none⟩ (.int .i64 (s + v2)))) := KS.out _ _
    have HB0 : Hid (Below w.heap.size w (W.setCell ⟨w1.heap.size, 0, none⟩ (.int .i64 (s + v2)))) := i2.setCell (p := ⟨w1.heap.size, 0, none⟩) hs1 _
    have HO0 : Hid (KeepsOthers W (W.setCell ⟨w1.heap.size, 0, none⟩ (.int .i64 (s + v2)))) := KeepsOthers.setCell _ _ _
    have hsz0 : (W.setCell ⟨w1.heap.size, 0, none⟩ (.int .i64 (s + v2))).heap.size = W.heap.size := by simp
    by_cases hq : v2 < v1
    · rw [if_pos hq] at hsn
      have HS := Lib.hid hsn
      have hqd : decide (v2 < v1) = true := decide_eq_true hq
      dsimp only at CR
      rw [hqd] at CR
      clear hqd hq i1 hsn
      gi_wp2_with fail
      refine ⟨trivial, ?_⟩
      refine (CR.out _).mono ?_
      rintro e W5 ⟨rfl, hb5⟩
      gi_wp2
      exact ⟨(HO0.out.trans (keeps_below hb5)).from _, HK0.out.trans (KB.out _ _ (by omega) hb5), ⟨by rw [HS.out]; exact boxed_below k1 hb5, HB0.out.trans (hb5.mono (by omega))⟩, by have := hb5.size; omega⟩
    · rw [if_neg hq] at hsn
      have hqd : decide (v2 < v1) = false := decide_eq_false hq
      dsimp only at CR
      rw [hqd] at CR
      have e2 : s + (v2 - v1) = s + v2 - v1 := by omega
      rw [e2] at hsn
      have HS := Lib.hid hsn
      clear hqd hq i1 e2 hsn
      gi_wp2_with fail
      refine ⟨trivial, ?_⟩
      refine (CR.out _).mono ?_
      rintro e W5 ⟨rfl, hb5⟩
      have k2 := boxed_below k1 hb5
      have hc5 := k2.cell
      have hf5 := k2.frozen
      have p5 := (hb5.cell (p := ⟨Bp, 1, none⟩) (by rw [hsz0]; exact (Array.getElem?_eq_some_iff.1 j3).1)).trans ((World.cell?_setCell_other W ⟨w1.heap.size, 0, none⟩ ⟨Bp, 1, none⟩ _ (by simp)).trans p1)
      have k3 := k2.set (.int .i64 (s + v2 - v1))
      have HB5 := Lib.hid hb5
      have HK2 := Lib.hid k3
      clear hb5 k1 k2 k3 hcs hfs p0 p1 x0 x1
      gi_wp2
      have hs5 := HB5.out.size
      exact ⟨((HO0.out.trans (keeps_below HB5.out)).trans (KeepsOthers.setCell _ _ _)).from _, (HK0.out.trans (KB.out _ _ (by omega) HB5.out)).trans (KS.out _ _), ⟨by rw [HS.out]; exact HK2.out, (HB0.out.trans (HB5.out.mono (by omega))).setCell (p := ⟨w1.heap.size, 0, none⟩) hs1 _⟩, by simp; omega⟩
  case done =>
    rintro D zs W hD hzs ⟨⟨i1, i2⟩, i3⟩ hK
    have hcs := i1.cell
    rw [hzs] at hcs
    have HB := Lib.hid (i2.trans (belowK_b (w := w) (Nat.le_refl _) W D _ (.deferred none) (by omega) hK rfl rfl))
    clear i1 i2
    gi_wp2
    refine ⟨by simp, .inl ⟨_, _, rfl, run_takeDeferred hK, ?_⟩⟩
    exact ⟨_, results_tmp rfl _ _ _, rfl, HB.out⟩
  case stop =>
    rintro D c pre W hD hS h hK
    exact h.elim
set_option maxRecDepth 100000 in
set_option maxHeartbeats 4000000 in
theorem pResets_any (l : List S) (hl : l.length ≤ 100000) (A : Option Addr) (c : Nat) (w : World) (hA : LS w w.heap.size A l) :
    Calls Try.prog 19 #[.slice A l.length c] w fun e w' => e = .returned (.int .i64 (rstO l : Nat)) ∧ Below w.heap.size w w' := by
  by_cases hc : chk 2 l ≠ 0
  · have C := Lib.hid (pCheck_any 2 l hl A c w hA)
    have HE := Lib.hid (rst_bad hc)
    have hcb : ((chk 2 l : Nat) : Int) ≠ 0 := by omega
    have hcq : (((chk 2 l : Nat) : Int) != 0) = true := by simpa using hc
    have hcq2 : (chk 2 l != 0) = true := by simpa using hc
    generalize chk 2 l = z at *
    clear hA
    go_enter Try.func19, Try.ntmps19
    go_wp2_with (go_at_call 12; (with_reducible refine C.out.mono ?_); rintro e w1 ⟨rfl, hb1⟩; have HB1 := Lib.hid hb1; clear hb1)
    go_ret
    rw [HE.out]
    exact ⟨rfl, HB1.out⟩
  have hc : chk 2 l = 0 := by omega
  have C := Lib.hid (pCheck_any 2 l hl A c w hA)
  rw [hc] at C
  rw [rst_good hc, ← rst_nbs l]
  have hcnt := nbs_cnt hc
  have hlen := (chk_two.1 hc).1
  clear hc
  refine (callsIn_wide (n := 6)).1 ?_
  refine callsIn_of_wp_marks Try.func19 rfl trivial ?_ rfl
  simp only [Try.ntmps19, List.size_toArray, List.length_cons, List.length_nil, Nat.reduceAdd, Nat.reduceSub, Array.replicate_succ, Array.replicate_zero, List.push_toArray, List.append_toArray, List.nil_append, List.cons_append]
  gi_wp2_with fail
  refine ⟨trivial, ?_⟩
  refine (callsIn_wide.2 C.out).mono ?_
  rintro e w1 ⟨rfl, hb1⟩
  gi_wp2_with fail
  refine ⟨trivial, ?_⟩
  refine (nb_in _ A l.length c _).mono ?_
  rintro e w' ⟨rfl, rfl⟩
  gi_wp2_with fail
  have hs1 := hb1.size
  have hbx : Boxed ((w1.alloc (.cells #[.int .i64 0] 3)).alloc (.cells #[.slice A l.length c] 22)) w1.heap.size 3 (.int .i64 0) := (Boxed.new w1 _ _).alloc _
  have hbl : ((w1.alloc (.cells #[.int .i64 0] 3)).alloc (.cells #[.slice A l.length c] 22)).cell? ⟨w1.heap.size + 1, 0, none⟩ = some (.slice A l.length c) := by go_simp
  have hB0 : Below w.heap.size w ((w1.alloc (.cells #[.int .i64 0] 3)).alloc (.cells #[.slice A l.length c] 22)) := (hb1.alloc hs1 _).alloc (by simp; omega) _
  have hz0 : ((w1.alloc (.cells #[.int .i64 0] 3)).alloc (.cells #[.slice A l.length c] 22)).heap.size = w1.heap.size + 2 := by simp only [World.size_alloc]
  generalize (w1.alloc (.cells #[.int .i64 0] 3)).alloc (.cells #[.slice A l.length c] 22) = W0 at *
  obtain ⟨b1, o, hL, hlt1, hor⟩ := lies_new l A c w W0 (w1.heap.size + 1) hA hB0 hbl (by omega)
  have hne1 : b1 ≠ w1.heap.size := by omega
  have hne2 : w1.heap.size + 1 ≠ w1.heap.size := by omega
  have KS : Hid (∀ W q, KK b1 (w1.heap.size + 1) W (W.setCell ⟨w1.heap.size, 0, none⟩ q)) := Lib.hid fun W q => ⟨by simp [World.setCell, Array.getElem?_modify, Ne.symm hne1], by simp [World.setCell, Array.getElem?_modify]⟩
  have KB : Hid (∀ W W', W0.heap.size ≤ W.heap.size → Below W.heap.size W W' → KK b1 (w1.heap.size + 1) W W') := Lib.hid fun W W' hs hb => ⟨hb.block b1 (by omega), hb.block _ (by omega)⟩
  have ST := Lib.hid (nb_stops Cnt 5 (by omega) b1 (w1.heap.size + 1) o c A l hl hcnt W0 hlt1 (by omega) hL)
  clear hL hbl hcnt hA
  refine wpIn_rangeFunc_ownH rfl (by omega) (gf := 50) (lb := #[.pointer (some ⟨w1.heap.size + 1, 0, none⟩)]) rfl trivial (enters_of Try.func50 (by kernel_rfl) rfl)
    ST.out (fun h k => h.trans k) (fun W lq oq oq' hlq hq hc hw => KK.put (by omega) (by omega)) (Below.refl _ _) (fun _ => rfl)
    (fun pre W => (Boxed W w1.heap.size 3 (.int .i64 ((rstP (valP pre) : Nat))) ∧ Below w.heap.size w W) ∧ W0.heap.size ≤ W.heap.size)
    (fun _ _ _ => False)
    (OwnFrom.and (OwnFrom.and (Own.from (boxed_own _ _ (fun (pre : List (PE Cnt)) => _)) _) (ownFrom_below (by omega) (by omega))) (fun s X Y row h hg hr => Nat.le_trans h hg.size))
    (fun c s A B row h hg hr => h)
    ⟨⟨hbx, hB0⟩, Nat.le_refl _⟩
    (fun x a' W => ∃ Bp Bx, w1.heap.size + 1 < Bp ∧ w1.heap.size + 1 < Bx ∧ W.heap[Bp]? = some (.cells #[.int .i64 x.1.1.1, .int .i64 x.1.1.2] 33 (0, 0)) ∧ W.heap[Bx]? = some (.cells #[.int .i64 x.1.2.1, .int .i64 x.1.2.2] 33 (0, 0)) ∧ a' = { tmps := #[.slice A l.length c, undef, .int .i64 0, .pointer (some ⟨w1.heap.size, 0, none⟩), .pointer (some ⟨Bp, 0, none⟩), .pointer (some ⟨Bx, 0, none⟩), .slice A l.length c, .int .i64 0, .bool false, .slice A l.length c, .func (.func 50) #[] #[.pointer (some ⟨w1.heap.size + 1, 0, none⟩)], .agg #[.int .i64 x.1.1.1, .int .i64 x.1.1.2], .agg #[.int .i64 x.1.2.1, .int .i64 x.1.2.2], undef, undef, undef, undef, undef, undef], defers := [] })
    (fun x a' _ A B row hs hg hr => by
      obtain ⟨Bp, Bx, i1, i2, i3, i4, i5⟩ := hs
      exact ⟨Bp, Bx, i1, i2, row_own (β := Unit) Bp _ (fun _ => _) () A B row i3 hg (fun r e => (hr r e).2), row_own (β := Unit) Bx _ (fun _ => _) () A B row i4 hg (fun r e => (hr r e).2), i5⟩)
    ?assign ?body ?done ?stop
  case assign =>
    rintro lc pre x W K ⟨⟨i1, i2⟩, i3⟩ hK
    have hle := i2.size
    gi_wp2
    refine hK _ _ (((KeepsOthers.alloc _ _).trans (KeepsOthers.alloc _ _)).from _) ⟨(Below.heap_alloc _ _ _ (by simp; omega)).trans (Below.heap_alloc _ _ _ (by omega)), (Below.heap_alloc _ _ _ (by simp; omega)).trans (Below.heap_alloc _ _ _ (by omega))⟩ ⟨⟨(i1.alloc _).alloc _, (i2.alloc hle _).alloc (by simp; omega) _⟩, by simp; omega⟩ ⟨W.heap.size, W.heap.size + 1, by omega, by omega, ?_, ?_, rfl⟩
    · exact (Below.heap_alloc _ _ _ (by simp)).trans (heap_alloc_new _ _)
    · have h := heap_alloc_new (W.alloc (.cells #[.int .i64 x.1.1.1, .int .i64 x.1.1.2] 33)) (.cells #[.int .i64 x.1.2.1, .int .i64 x.1.2.2] 33)
      simpa only [World.size_alloc] using h
  case body =>
    rintro lc pre x a' W hlc _ ⟨⟨i1, i2⟩, i3⟩ ⟨Bp, Bx, j1, j2, j3, j4, rfl⟩ hlt
    have hsn := rstP_snoc (valP pre) x.1
    rw [← valP_snoc] at hsn
    have hbd := rstP_bound pre
    obtain ⟨⟨⟨t1, v1⟩, ⟨t2, v2⟩⟩, hxx⟩ := x
    dsimp only at hsn j3 j4 ⊢
    generalize rstP (valP pre) = s at *
    have hw1 : wrap64 ((s : Int) + 1) = ((s + 1 : Nat) : Int) := by unfold wrap64; omega
    obtain ⟨p0, p1⟩ := cells2' j3
    obtain ⟨x0, x1⟩ := cells2' j4
    have hcs := i1.cell
    have hfs := i1.frozen
    have hle := i2.size
    have CR := Lib.hid (fun W' => CallsIn.inRound lc (callsIn_wide.2 (reset_any (t1, v1) (t2, v2) W') : CallsIn Fence.wide 3 _ _ _ _ _))
    by_cases hq : v2 < v1
    · rw [if_pos hq] at hsn
      have HS := Lib.hid hsn
      have hqd : decide (v2 < v1) = true := decide_eq_true hq
      dsimp only at CR
      rw [hqd] at CR
      clear hqd hq hsn
      gi_wp2_with fail
      refine ⟨trivial, ?_⟩
      refine (CR.out _).mono ?_
      rintro e W5 ⟨rfl, hb5⟩
      have k2 := boxed_below i1 hb5
      have hc5 := k2.cell
      have hf5 := k2.frozen
      have HK2 := Lib.hid (k2.set (.int .i64 ((s + 1 : Nat) : Int)))
      have HB5 := Lib.hid hb5
      clear hb5 k2 hcs hfs p0 p1 x0 x1 i1
      gi_wp2
      have hs5 := HB5.out.size
      exact ⟨((keeps_below HB5.out).trans (KeepsOthers.setCell _ _ _)).from _, (KB.out _ _ (by omega) HB5.out).trans (KS.out _ _), ⟨by rw [HS.out]; exact HK2.out, (i2.trans (HB5.out.mono hle)).setCell (p := ⟨w1.heap.size, 0, none⟩) hs1 _⟩, by simp; omega⟩
    · rw [if_neg hq, Nat.add_zero] at hsn
      have HS := Lib.hid hsn
      have hqd : decide (v2 < v1) = false := decide_eq_false hq
      dsimp only at CR
      rw [hqd] at CR
      clear hqd hq hsn
      gi_wp2_with fail
      refine ⟨trivial, ?_⟩
      refine (CR.out _).mono ?_
      rintro e W5 ⟨rfl, hb5⟩
      gi_wp2
      exact ⟨(keeps_below hb5).from _, KB.out _ _ (by omega) hb5, ⟨by rw [HS.out]; exact boxed_below i1 hb5, i2.trans (hb5.mono hle)⟩, by have := hb5.size; omega⟩
  case done =>
    rintro D zs W hD hzs ⟨⟨i1, i2⟩, i3⟩ hK
    have hcs := i1.cell
    rw [hzs] at hcs
    have HB := Lib.hid (i2.trans (belowK_b (w := w) (Nat.le_refl _) W D _ (.deferred none) (by omega) hK rfl rfl))
    clear i1 i2
    gi_wp2
    refine ⟨by simp, .inl ⟨_, _, rfl, run_takeDeferred hK, ?_⟩⟩
    exact ⟨_, results_tmp rfl _ _ _, rfl, HB.out⟩
  case stop =>
    rintro D c pre W hD hS h hK
    exact h.elim
end Go.Proofs.Ytobipbedkkmlcaa.Sr
