/- Layer 9: the runs of a list, appended to bytes. -/
import Derived.Test.YtmeekciclfgkkaaDcD
set_option linter.unusedVariables false
set_option linter.unusedSimpArgs false
namespace Go.Proofs.Ytmeekciclfgkkaa.Dc
open Go.RowKit Go.Shelf

attribute [local go_sem] Oper.semAt_some

/-- A block that no row of bytes of the call's own can be. -/
def Far (B b : Nat) (w : World) : Prop := b < w.heap.size ∧ (b < B ∨ ∃ cs ty fz, w.heap[b]? = some (.cells cs ty fz) ∧ ty ≠ 5)
theorem Far.ne {B b : Nat} {w : World} {v : Value} {t : List UInt8} (h : Far B b w) (hO : OwnBy B w v t) : some b ≠ v.ownBlock := by
  rcases hO.2 with ⟨rfl, _⟩ | ⟨g, cap, cur, rfl, hb, hg, _⟩
  · simp [Value.ownBlock]
  · intro e
    obtain rfl : b = g := by simpa [Value.ownBlock] using e
    rcases h.2 with h | ⟨cs, ty, fz, h1, h2⟩
    · omega
    · rw [hg] at h1
      cases h1
      exact h2 rfl
theorem Far.kept {B b : Nat} {w w' : World} (h : Far B b w) (hk : w'.heap[b]? = w.heap[b]?) (hs : w.heap.size ≤ w'.heap.size) : Far B b w' :=
  ⟨Nat.lt_of_lt_of_le h.1 hs, h.2.imp id fun ⟨cs, ty, fz, h1, h2⟩ => ⟨cs, ty, fz, hk.trans h1, h2⟩⟩
theorem Far.row {B b : Nat} {w w' : World} {v : Value} {t : List UInt8} (h : Far B b w) (hO : OwnBy B w v t) (hg : w.grownBy w' v.ownBlock) : w'.heap[b]? = w.heap[b]? := hg.block b h.1 (h.ne hO)
theorem Far.boxed {B b : Nat} {w : World} {ty : TypeId} {v : Value} (h : Boxed w b ty v) (hn : ty ≠ 5) : Far B b w := ⟨h.lt, .inr ⟨_, _, _, h, hn⟩⟩
/-- A list of numbers that no row of bytes of the call's own holds. -/
def IntsX (B : Nat) (w : World) (sv : Value) (l : List Int) : Prop :=
  ∃ a cap, sv = .slice a l.length cap ∧ (l ≠ [] → ∃ b off, a = some ⟨b, off, none⟩ ∧ Far B b w ∧ ∀ j, j < l.length → w.cell? ⟨b, off + j, none⟩ = some (.int .i64 (l[j]?.getD 0)))
theorem IntsX.of_ints {B : Nat} {w : World} {sv : Value} {l : List Int} (h : Ints B w sv l) (hB : B ≤ w.heap.size) : IntsX B w sv l := by
  obtain ⟨a, cap, rfl, h2⟩ := h.at
  exact ⟨a, cap, rfl, fun hn => by
    obtain ⟨b, off, e, hb, hc⟩ := h2 hn
    exact ⟨b, off, e, ⟨by omega, .inl hb⟩, hc⟩⟩
theorem IntsX.of_own {B C : Nat} {w : World} {sv : Value} {l : List Int} (h : w.ownsRow C 3 1 sv l.length (ic l)) : IntsX B w sv l := by
  rcases h.2 with ⟨rfl, h0⟩ | ⟨g, cap, cur, rfl, _, hg, _⟩
  · exact ⟨none, 0, by rw [h0], fun hn => absurd (List.length_eq_zero_iff.1 h0) hn⟩
  · refine ⟨_, cap, rfl, fun hn => ⟨g, 0, rfl, ⟨(h.lt g rfl).2, .inr ⟨_, _, _, hg, by decide⟩⟩, fun j hj => ?_⟩⟩
    have := h.cells rfl j (.int .i64 (l[j]?.getD 0)) (by unfold ic; simp [List.getElem?_eq_getElem hj])
    rwa [add_lit] at this
theorem IntsX.kept {B : Nat} {w w' : World} {sv : Value} {l : List Int} (h : IntsX B w sv l) (hs : w.heap.size ≤ w'.heap.size) (hk : ∀ b, Far B b w → w'.heap[b]? = w.heap[b]?) : IntsX B w' sv l := by
  obtain ⟨a, cap, e, h⟩ := h
  refine ⟨a, cap, e, fun hn => ?_⟩
  obtain ⟨b, off, e2, hf, hc⟩ := h hn
  exact ⟨b, off, e2, hf.kept (hk b hf) hs, fun j hj => (World.cell?_of_block (hk b hf)).trans (hc j hj)⟩
theorem IntsX.row {B : Nat} {w w' : World} {sv v : Value} {l : List Int} {t : List UInt8} (h : IntsX B w sv l) (hO : OwnBy B w v t) (hg : w.grownBy w' v.ownBlock) : IntsX B w' sv l := h.kept hg.size fun b hf => hf.row hO hg
theorem IntsX.below {B : Nat} {w w' : World} {sv : Value} {l : List Int} (h : IntsX B w sv l) (hb : Below w.heap.size w w') : IntsX B w' sv l := h.kept hb.size fun b hf => hb.block b hf.1
theorem IntsX.ints {B : Nat} {w : World} {sv : Value} {l : List Int} (h : IntsX B w sv l) : IntsAt w.heap.size w sv l := by
  obtain ⟨a, cap, e, h⟩ := h
  refine ⟨a, cap, e, fun hn => ?_⟩
  obtain ⟨b, off, e2, hf, hc⟩ := h hn
  exact ⟨b, off, e2, hf.1, hc⟩

theorem runs_in (dp : Nat) (a : Option Addr) (n c : Nat) (w : World) :
    CallsIn Fence.wide dp Try.prog 41 #[.slice a n c] w fun e w' => e = .returned (.func (.func 44) #[] #[.pointer (some ⟨w.heap.size, 0, none⟩)]) ∧ w' = w.alloc (.cells #[.slice a n c] 22) := by
  refine callsIn_of_wp Try.func41 rfl trivial ?_ rfl
  simp only [Try.ntmps41, List.size_toArray, List.length_cons, List.length_nil, Nat.reduceAdd, Nat.reduceSub, Array.replicate_succ, Array.replicate_zero, List.push_toArray, List.append_toArray, List.nil_append, List.cons_append]
  gi_wp2
  go_ret
  exact ⟨rfl, rfl⟩
theorem runs_stops (dp : Nat) (hn : 1 ≤ dp) (b1 b2 o c : Nat) (a : Option Addr) (zs : List Int) (hl : zs.length ≤ 1000000) (hz : within 1152921504606846976 zs) (w : World) (h1 : b1 < w.heap.size) (h2 : b2 < w.heap.size) (hL : Lies b1 b2 o c a zs w) :
    SeqStopsK Fence.wide dp Try.prog 44 #[.pointer (some ⟨b2, 0, none⟩)] encR (KK b1 b2) (fun ys => vals ys = rle zs) (fun _ => True) (rle zs).length w := fun l J Jx W hW hJ hJx hY hj =>
  runs1_in dp hn l b1 b2 o c a zs hl hz J Jx hY W (hL.kept ⟨hW.block b1 h1, hW.block b2 h2⟩) hj
theorem runB_len : ∀ r : List RE, (runB (vals r)).length ≤ 18 * r.length
  | [] => Nat.le_refl _
  | x :: r => by
    have h1 := runB_len r
    have h2 := uv_len9 (m := fold x.1.1) (by have := fold_le x.2.1.1 x.2.1.2; omega)
    have h3 := uv_len9 (m := x.1.2) (by have := x.2.2; omega)
    unfold vals at h1 ⊢
    rw [List.map_cons, show x.1 = (x.1.1, x.1.2) from rfl, runB_cons, List.length_append, List.length_append, List.length_cons]
    unfold sB
    omega
theorem runB_snoc (r : List RE) (x : RE) : runB (vals (r ++ [x])) = runB (vals r) ++ sB x.1.1 ++ Lib.uvarint x.1.2 := by
  rw [vals_snoc]
  unfold runB
  rw [List.flatMap_append, List.append_assoc]
  simp
theorem kk_own {b1 b2 : Nat} {w : World} (h1 : b1 < w.heap.size) (h2 : b2 < w.heap.size) : OwnFrom w.heap.size (fun (_ : List RE) W => KK b1 b2 w W) := fun s X Y row hs hg hr => by
  have key : ∀ b, b < w.heap.size → X.heap[b]? = w.heap[b]? → Y.heap[b]? = w.heap[b]? := fun b hb he => by
    have hX : b < X.heap.size := by
      rw [Array.getElem?_eq_getElem hb] at he
      exact (Array.getElem?_eq_some_iff.1 he).1
    exact (hg.block b hX (fun e => by have := (hr b e.symm).1; omega)).trans he
  exact ⟨key b1 h1 hs.1, key b2 h2 hs.2⟩
theorem row_cells {B : Nat} {w : World} {v : Value} {t : List UInt8} (h : OwnBy B w v t) : ∀ (j : Nat) (o : Obj), v.ownBlock = some j → w.heap[j]? = some o → o.isCells = true := fun j o ej hj => by
  rcases h.2 with ⟨rfl, _⟩ | ⟨g, cap, cur, rfl, _, hg, _⟩
  · simp [Value.ownBlock] at ej
  · obtain rfl : g = j := by simpa [Value.ownBlock] using ej
    rw [hg] at hj
    cases hj
    rfl

set_option maxRecDepth 100000 in
set_option maxHeartbeats 4000000 in
theorem appRuns_any (B : Nat) (zs : List Int) (hl : zs.length ≤ 1000000) (hz : within 1152921504606846976 zs) (sv lv : Value) (t : List UInt8) (ht : t.length ≤ 10000000) (w : World) (hB : B ≤ w.heap.size) (hO : OwnBy B w sv t) (hI : IntsX B w lv zs) :
    Calls Try.prog 34 #[sv, lv] w fun e w' => ∃ v', e = .returned v' ∧ OwnBy B w' v' (t ++ rleB zs) ∧ Below B w w' := by
  obtain ⟨A, c0, rfl⟩ := own_form hO
  obtain ⟨a, cap, rfl, hI⟩ := hI
  refine (callsIn_wide (n := 6)).1 ?_
  refine callsIn_of_wp_marks Try.func34 rfl trivial ?_ rfl
  simp only [Try.ntmps34, List.size_toArray, List.length_cons, List.length_nil, Nat.reduceAdd, Nat.reduceSub, Array.replicate_succ, Array.replicate_zero, List.push_toArray, List.append_toArray, List.nil_append, List.cons_append]
  gi_wp2_with fail
  refine ⟨trivial, ?_⟩
  refine (runs_in _ a zs.length cap _).mono ?_
  rintro e w' ⟨rfl, rfl⟩
  gi_wp2_with fail
  have hb1 : Boxed ((w.alloc (.cells #[.slice A t.length c0] 47)).alloc (.cells #[.slice a zs.length cap] 22)) w.heap.size 47 (.slice A t.length c0) := (Boxed.new w _ _).alloc _
  have hb2 : Boxed ((w.alloc (.cells #[.slice A t.length c0] 47)).alloc (.cells #[.slice a zs.length cap] 22)) (w.heap.size + 1) 22 (.slice a zs.length cap) := by
    have h := Boxed.new (w.alloc (.cells #[.slice A t.length c0] 47)) 22 (.slice a zs.length cap)
    simpa only [World.size_alloc] using h
  have hB0 : Below w.heap.size w ((w.alloc (.cells #[.slice A t.length c0] 47)).alloc (.cells #[.slice a zs.length cap] 22)) := ((Below.refl _ _).alloc (Nat.le_refl _) _).alloc (by simp) _
  have hz0 : ((w.alloc (.cells #[.slice A t.length c0] 47)).alloc (.cells #[.slice a zs.length cap] 22)).heap.size = w.heap.size + 2 := by simp only [World.size_alloc]
  generalize (w.alloc (.cells #[.slice A t.length c0] 47)).alloc (.cells #[.slice a zs.length cap] 22) = W0 at *
  have hO0 : OwnBy B W0 (.slice A t.length c0) t := hO.step hB0
  obtain ⟨b1, o, hL, hF1, hne1⟩ : ∃ b1 o, Lies b1 (w.heap.size + 1) o cap a zs W0 ∧ Far B b1 W0 ∧ b1 ≠ w.heap.size := by
    by_cases hn : zs = []
    · subst hn
      exact ⟨w.heap.size + 1, 0, ⟨hb2.cell, fun h => by simp at h, fun j h => by simp at h⟩, Far.boxed hb2 (by decide), by omega⟩
    · obtain ⟨b, off, rfl, hf, hc⟩ := hI hn
      exact ⟨b, off, ⟨hb2.cell, fun _ => rfl, fun j hj => (hB0.cell (p := ⟨b, off + j, none⟩) hf.1).trans (hc j hj)⟩, hf.kept (hB0.block b hf.1) hB0.size, by have := hf.1; omega⟩
  have hF2 : Far B (w.heap.size + 1) W0 := Far.boxed hb2 (by decide)
  have hrl := rle_len zs
  clear hI
  refine wpIn_rangeFunc_ownG rfl (by omega) (gf := 44) (lb := #[.pointer (some ⟨w.heap.size + 1, 0, none⟩)]) rfl trivial (enters_of Try.func44 (by kernel_rfl) rfl)
    (runs_stops 5 (by omega) b1 (w.heap.size + 1) o cap a zs hl hz W0 hF1.1 hF2.1 hL) (fun h k => h.trans k) (fun W l o o' hl h hc hw => KK.put (by have := hF1.1; omega) (by have := hF2.1; omega)) (Below.refl _ _) (fun _ => rfl)
    (fun pre W => (KK b1 (w.heap.size + 1) W0 W ∧ Below B W0 W) ∧ ∃ v, Boxed W w.heap.size 47 v ∧ W.ownsRow B 5 1 v (t ++ runB (vals pre)).length (Lib.byteCells (t ++ runB (vals pre))) ∧ True)
    (fun _ _ _ => False)
    (OwnFrom.and (OwnFrom.and (kk_own hF1.1 hF2.1) (ownFrom_below (by omega) (by omega))) (Own.from (holdsRow_own _ _ _ _ _ _ _ (fun _ _ => True)) _))
    (fun c s A B row h hg hr => h)
    ⟨⟨⟨rfl, rfl⟩, Below.refl _ _⟩, _, hb1, by have h := hO0; unfold OwnBy at h; simpa [vals, runB] using h, trivial⟩
    (fun x => { tmps := #[.slice A t.length c0, .slice a zs.length cap, .pointer (some ⟨w.heap.size, 0, none⟩), undef, .slice none 0 0, .int .i64 x.1.1, .int .i64 (x.1.2 : Int), .slice a zs.length cap, .func (.func 44) #[] #[.pointer (some ⟨w.heap.size + 1, 0, none⟩)], .int .i64 x.1.1, .int .i64 (x.1.2 : Int), undef, undef, undef, undef, undef, undef], defers := [] })
    ?assign ?body ?done ?stop
  case assign =>
    intro l x W K hK
    gi_wp2
    exact hK
  case body =>
    rintro l pre x W ⟨⟨hkk, hbW⟩, v, i3, i4, _⟩ hlt
    have hrb := runB_len pre
    have hlen : (t ++ runB (vals pre)).length + 30 ≤ 140737488351232 := by rw [List.length_append]; omega
    have f1 := hF1.kept hkk.1 hbW.size
    have f2 := hF2.kept hkk.2 hbW.size
    have hle := hbW.size
    obtain ⟨A', c', rfl⟩ := own_form i4
    have hc := i3.cell
    have HS : Hid (t ++ runB (vals (pre ++ [x])) = t ++ runB (vals pre) ++ sB x.1.1 ++ Lib.uvarint x.1.2) := Lib.hid (by rw [runB_snoc]; simp only [List.append_assoc])
    have hBW : B ≤ W.heap.size := by omega
    have HF1 := Lib.hid f1
    have HF2 := Lib.hid f2
    have HO4 : Hid (OwnBy B W (.slice A' (t ++ runB (vals pre)).length c') (t ++ runB (vals pre))) := i4
    have HB3 := Lib.hid i3
    have HBW := Lib.hid hbW
    have HKK := Lib.hid hkk
    have hx := x.2
    generalize t ++ runB (vals pre) = u at *
    clear hbW hkk f1 f2 i3 i4 hB0 hb1 hb2 hL hO hO0 hF1 hF2
    gi_wp2_with fail
    refine ⟨trivial, ?_⟩
    refine (CallsIn.inRound l (callsIn_wide.2 (appSig_any B x.1.1 _ u W hBW HO4.out hx.1.1 hx.1.2 (by omega)))).mono ?_
    rintro e W1 ⟨v1, rfl, ho1, hb1, hg1⟩
    have hl1 : (u ++ sB x.1.1).length + 10 ≤ 140737488351232 := by
      have h2 := uv_len9 (m := fold x.1.1) (by have := fold_le hx.1.1 hx.1.2; omega)
      rw [List.length_append]
      unfold sB
      omega
    gi_wp2_with fail
    refine ⟨trivial, ?_⟩
    refine (CallsIn.inRound l (callsIn_wide.2 (appNum_any B x.1.2 v1 _ W1 (Nat.le_trans hBW hg1.size) ho1 hx.2 hl1))).mono ?_
    rintro e W2 ⟨v2, rfl, ho2, hb2, hg2⟩
    obtain ⟨u2, hu2⟩ : ∃ u2, u ++ sB x.1.1 ++ Lib.uvarint x.1.2 = u2 := ⟨_, rfl⟩
    rw [hu2] at ho2
    have HU2 := Lib.hid hu2
    clear hu2
    have k1 : Boxed W1 w.heap.size 47 _ := HB3.out.kept hg1 (HB3.out.not_row (by decide) HO4.out)
    have k2 : Boxed W2 w.heap.size 47 _ := k1.kept hg2 (k1.not_row (by decide) ho1)
    have hv2 := k2.not_row (by decide) ho2
    have h1 : W1.heap[b1]? = W.heap[b1]? := HF1.out.row HO4.out hg1
    have h2 : W1.heap[w.heap.size + 1]? = W.heap[w.heap.size + 1]? := HF2.out.row HO4.out hg1
    have h3 : W2.heap[b1]? = W1.heap[b1]? := (HF1.out.kept h1 hg1.size).row ho1 hg2
    have h4 : W2.heap[w.heap.size + 1]? = W1.heap[w.heap.size + 1]? := (HF2.out.kept h2 hg1.size).row ho1 hg2
    have KO : KeepsOthers W W2 := (KeepsOthers.of_grownBy hg1 (row_cells HO4.out)).trans (KeepsOthers.of_grownBy hg2 (row_cells ho1))
    have hgs := fun q => grownBy_setCell' W2 w.heap.size q
    have KK1 : Hid (∀ q, KK b1 (w.heap.size + 1) W (W2.setCell ⟨w.heap.size, 0, none⟩ q)) := Lib.hid fun q => ⟨((hgs q).block b1 (Nat.lt_of_lt_of_le HF1.out.1 KO.size) (fun e => hne1 (by cases e; rfl))).trans (h3.trans h1), ((hgs q).block (w.heap.size + 1) (Nat.lt_of_lt_of_le HF2.out.1 KO.size) (fun e => by injection e with e; omega)).trans (h4.trans h2)⟩
    have KO1 : Hid (∀ q, KeepsOthers W (W2.setCell ⟨w.heap.size, 0, none⟩ q)) := Lib.hid fun q => KO.trans (KeepsOthers.setCell _ _ _)
    have BB1 : Hid (∀ q, Below B W0 (W2.setCell ⟨w.heap.size, 0, none⟩ q)) := Lib.hid fun q => ((HBW.out.trans hb1).trans hb2).setCell (p := ⟨w.heap.size, 0, none⟩) hB q
    have OW1 : Hid (∀ q, OwnBy B (W2.setCell ⟨w.heap.size, 0, none⟩ q) v2 u2) := Lib.hid fun q => World.ownsRow.kept ho2 (hgs q) (.inr fun e => hv2 e.symm)
    have BX1 : Hid (∀ q, Boxed (W2.setCell ⟨w.heap.size, 0, none⟩ q) w.heap.size 47 q) := Lib.hid fun q => k2.set q
    obtain ⟨A2, c2, rfl⟩ := own_form ho2
    have hc2 := k2.cell
    have hf2 := k2.frozen
    clear k1 k2 h1 h2 h3 h4 KO hgs ho1 ho2 hb1 hb2 hg1 hg2 hv2
    gi_wp2
    refine ⟨(KO1.out _).from _, KK1.out _, ⟨HKK.out.trans (KK1.out _), BB1.out _⟩, _, BX1.out _, ?_, trivial⟩
    rw [HS.out, HU2.out]
    exact OW1.out _
  case done =>
    rintro D ys W hD hS ⟨⟨hkk, hbW⟩, v, i3, i4, _⟩ hK
    obtain ⟨u, hu⟩ : ∃ u, t ++ runB (vals ys) = u := ⟨_, rfl⟩
    rw [hu] at i4
    have HU : Hid (u = t ++ rleB zs) := Lib.hid (by rw [← hu, hS]; rfl)
    clear hu
    obtain ⟨A', c', rfl⟩ := own_form i4
    have hc := i3.cell
    have HO := Lib.hid (ownsRow_putObj i4 (.deferred none) hK rfl)
    have HB : Hid (Below B w (W.putObj D (.deferred none))) := Lib.hid (((hB0.mono hB).trans hbW).trans (belowK_b (w := w) hB W D _ (.deferred none) (by omega) hK rfl rfl))
    gi_wp2
    refine ⟨by simp, .inl ⟨_, _, rfl, run_takeDeferred hK, ?_⟩⟩
    exact ⟨_, results_tmp rfl _ _ _, _, rfl, by rw [← HU.out]; exact HO.out, HB.out⟩
  case stop =>
    rintro D c pre W hD hS h hK
    exact h.elim
end Go.Proofs.Ytmeekciclfgkkaa.Dc
