/- Layer 12: the laws' build. -/
import Derived.Test.YtffnopdpndpngaaMt
set_option linter.unusedVariables false
set_option linter.unusedSimpArgs false
namespace Go.Proofs.Ytffnopdpndpngaa.Lh
open Go.RowKit
/-- The slice at A reads as the numbers l; it lies below block N. -/
def LI (w : World) (N : Nat) (A : Option Addr) (l : List Int) : Prop :=
  l ≠ [] → ∃ b off, A = some ⟨b, off, none⟩ ∧ b < N ∧ ∀ j (h : j < l.length), w.cell? ⟨b, off + j, none⟩ = some (.int .i64 l[j])
theorem LI.at_ {w : World} {N : Nat} {A : Option Addr} {l : List Int} (h : LI w N A l) {k : Nat} (hk : k < l.length) :
    ∃ b off, A = some ⟨b, off, none⟩ ∧ b < N ∧ w.cell? ⟨b, off + k, none⟩ = some (.int .i64 l[k]) := by
  obtain ⟨b, off, e, hb, hc⟩ := h (by intro e; rw [e] at hk; simp at hk)
  exact ⟨b, off, e, hb, hc k hk⟩
theorem LI.below {w w' : World} {N : Nat} {A : Option Addr} {l : List Int} (h : LI w N A l) (hb : Below N w w') : LI w' N A l := fun hne => by
  obtain ⟨b, off, e, hl, hc⟩ := h hne
  exact ⟨b, off, e, hl, fun j hj => (hb.cell hl).trans (hc j hj)⟩
theorem LI.more {w : World} {N N' : Nat} {A : Option Addr} {l : List Int} (h : LI w N A l) (hN : N ≤ N') : LI w N' A l := fun hne => by
  obtain ⟨b, off, e, hl, hc⟩ := h hne
  exact ⟨b, off, e, by omega, hc⟩
theorem LI.up {w W : World} {A : Option Addr} {l : List Int} (h : LI w w.heap.size A l) (hb : Below w.heap.size w W) : LI W W.heap.size A l := (h.below hb).more hb.size
theorem LS.up {w W : World} {A : Option Addr} {l : List B} (h : LS w w.heap.size A l) (hb : Below w.heap.size w W) : LS W W.heap.size A l := (h.below hb).more hb.size
/-- The histogram of these values. -/
def bldH (p : Int) (vs : List Int) : H := vs.foldl (fun h v => addH h v 1) (newH p)
theorem of_fold {p : Int} : ∀ (vs us : List Int) (h : H), Of p us h → Of p (us ++ vs) (vs.foldl (fun h v => addH h v 1) h)
  | [], us, h, o => by rw [List.append_nil]; exact o
  | v :: vs, us, h, o => by
    have := of_fold vs (us ++ [v]) (addH h v 1) (o.add v)
    rw [List.append_assoc] at this
    exact this
theorem bld_of (p : Int) (vs : List Int) : Of p vs (bldH p vs) := of_fold vs [] (newH p) (Of.nil p)
theorem bld_snoc (p : Int) (vs : List Int) (v : Int) : bldH p (vs ++ [v]) = addH (bldH p vs) v 1 := by unfold bldH; rw [List.foldl_append]; rfl
theorem Val.take {vs : List Int} (h : Val vs) (k : Nat) : Val (vs.take k) := fun v hv => h v (List.mem_of_mem_take hv)
theorem Of.inI {p : Int} {vs : List Int} {h : H} (o : Of p vs h) (h0 : 0 ≤ p) (h8 : p ≤ 8) (hv : Val vs) (hn : vs.length ≤ 500) : Lh.inI h.s ∧ Lh.inI h.mn ∧ Lh.inI h.mx ∧ h.bs.length ≤ 500 := by
  have hl := o.len
  have ok := o.ok h0 h8 hv (by omega) (by omega)
  have s := ok.sum
  unfold Lh.inI
  by_cases e : vs = []
  · have := o.no e
    omega
  · have m1 := hv _ (o.mn e).1
    have m2 := hv _ (o.mx e).1
    omega
/-- A histogram's six cells, and where its buckets lie. -/
structure HJ (w W : World) (g : Nat) (A : Option Addr) (c : Nat) (G : H) : Prop where
  row : W.heap[g]? = some (.cells #[.int .i64 G.p, .int .i64 G.c, .int .i64 G.s, .int .i64 G.mn, .int .i64 G.mx, .slice A G.bs.length c] 29 (0, 0))
  zero : W.heap[w.heap.size]? = some (.cells #[.int .i64 0, .int .i64 0, .int .i64 0, .int .i64 0, .int .i64 0, .slice none 0 0] 29 (0, 0))
  ls : LS W W.heap.size A G.bs
  far : G.bs ≠ [] → ∃ b o, A = some ⟨b, o, none⟩ ∧ g < b
  bel : Below w.heap.size w W
  lt : g < W.heap.size
  gt : w.heap.size < g
def BOut (w : World) (G : H) (e : Ending) (w' : World) : Prop :=
  ∃ A c, e = .returned (.tuple #[hV G.p G.c G.s G.mn G.mx A G.bs.length c, .bool true]) ∧ LS w' w'.heap.size A G.bs ∧ Below w.heap.size w w'
theorem HJ.next {w W V : World} {g : Nat} {A A2 : Option Addr} {c c2 : Nat} {G G2 : H} (h : HJ w W g A c G) (hb : Below W.heap.size W V) (hl : LS V V.heap.size A2 G2.bs) (hf : G2.bs ≠ [] → ∃ b o, A2 = some ⟨b, o, none⟩ ∧ W.heap.size ≤ b) :
    HJ w ((((((V.setCell ⟨g, 0, none⟩ (.int .i64 G2.p)).setCell ⟨g, 1, none⟩ (.int .i64 G2.c)).setCell ⟨g, 2, none⟩ (.int .i64 G2.s)).setCell ⟨g, 3, none⟩ (.int .i64 G2.mn)).setCell ⟨g, 4, none⟩ (.int .i64 G2.mx)).setCell ⟨g, 5, none⟩ (.slice A2 G2.bs.length c2)) g A2 c2 G2 := by
  have hgt := h.gt
  have hlt := h.lt
  have hs := hb.size
  have hr := (hb.block g h.lt).trans h.row
  have hz := (hb.block w.heap.size (by omega)).trans h.zero
  have hf2 : G2.bs ≠ [] → ∃ b o, A2 = some ⟨b, o, none⟩ ∧ g < b := fun hne => by
    obtain ⟨b, o, e, g2⟩ := hf hne
    exact ⟨b, o, e, by omega⟩
  refine ⟨six_heap hr _ _ _ _ _ _, (six_other (by omega) _ _ _ _ _ _).trans hz, ls_past (r := g) hl hf2 (fun q hq => six_other hq _ _ _ _ _ _) (by simp), hf2, six_below (h.bel.trans (hb.mono h.bel.size)) (by omega) _ _ _ _ _ _, by simp; omega, hgt⟩
set_option maxHeartbeats 4000000 in
theorem build_any (p : Int) (vs : List Int) (h0 : 0 ≤ p) (h8 : p ≤ 8) (hv : Val vs) (hn : vs.length < 500) (A : Option Addr) (c : Nat) (w : World) (hA : LI w w.heap.size A vs) :
    Calls Try.prog 35 #[.int .i64 p, .slice A vs.length c] w (BOut w (bldH p vs)) := by
  have NW : Hid (∀ w, Calls Try.prog 16 #[.int .i64 p] w fun e w' => ∃ A c, e = .returned (.tuple #[hV p 0 0 0 0 A 0 c, .int .i64 0]) ∧ Below w.heap.size w w') := Lib.hid fun w => by
    have C := pNew_any p w
    rw [if_neg (by omega)] at C
    exact C.mono fun e w' ⟨A, c, h1, _, _, h2⟩ => ⟨A, c, h1, h2⟩
  have AD : Hid (∀ (k : Nat) (hk : k < vs.length) (G2 : H), G2 = bldH p (vs.take (k + 1)) → ∀ (G : H), G = bldH p (vs.take k) → ∀ A c V, LS V V.heap.size A G.bs → Calls Try.prog 21 #[hV G.p G.c G.s G.mn G.mx A G.bs.length c, .int .i64 vs[k], .int .i64 1] V (HOut V (G2, 0))) := Lib.hid fun k hk G2 hG2 G hG A c V hl => by
    have o := bld_of p (vs.take k)
    rw [← hG] at o
    have hlen : (vs.take k).length = k := by rw [List.length_take]; omega
    obtain ⟨i1, i2, i3, i4⟩ := o.inI h0 h8 (hv.take k) (by omega)
    have C := pAdd_any G.p G.c G.s G.mn G.mx vs[k] 1 G.bs (by omega) i1 i2 i3 A c V hl
    have e := (o.addO h0 h8 (hv.take k) (by omega) (hv _ (List.getElem_mem hk))).1
    rw [show (⟨G.p, G.c, G.s, G.mn, G.mx, G.bs⟩ : H) = G from rfl, e] at C
    rw [List.take_succ_eq_append_getElem hk, bld_snoc, ← hG] at hG2
    rw [hG2]
    exact C
  have HA := Lib.hid hA
  have HN := Lib.hid hn
  have B0 : Hid (Below w.heap.size w (w.alloc (.cells #[.int .i64 0, .int .i64 0, .int .i64 0, .int .i64 0, .int .i64 0, .slice none 0 0] 29))) := (Below.refl _ w).alloc (Nat.le_refl _) _
  have R0 : Hid ((w.alloc (.cells #[.int .i64 0, .int .i64 0, .int .i64 0, .int .i64 0, .int .i64 0, .slice none 0 0] 29)).heap[w.heap.size]? = some (.cells #[.int .i64 0, .int .i64 0, .int .i64 0, .int .i64 0, .int .i64 0, .slice none 0 0] 29 (0, 0))) := heap_alloc_new _ _
  clear hA hv
  go_enter Try.func35, Try.ntmps35
  go_wp2_with fail
  with_reducible refine (NW.out _).mono ?_
  rintro e w1 ⟨A0, c0, rfl, hb⟩
  have hs1 := hb.size
  simp only [World.size_alloc] at hs1
  have HJ0 : Hid (HJ w (w1.alloc (.cells #[.int .i64 p, .int .i64 0, .int .i64 0, .int .i64 0, .int .i64 0, .slice A0 0 c0] 29)) w1.heap.size A0 c0 (newH p)) := by
    have hb2 := B0.out.trans (hb.mono B0.out.size)
    have hr := (hb.block w.heap.size (by simp)).trans R0.out
    refine ⟨heap_alloc_new _ _, (Below.heap_alloc _ _ _ (by omega)).trans hr, LS.nil _ _ _, fun h => absurd rfl h, hb2.alloc hb2.size _, by simp, by omega⟩
  clear hb B0 R0
  go_wp2_with fail
  generalize w1.alloc (.cells #[.int .i64 p, .int .i64 0, .int .i64 0, .int .i64 0, .int .i64 0, .slice A0 0 c0] 29) = W2 at *
  go_loopw [7, 17] (fun ve vi wr => ∃ (k : Nat) (A1 : Option Addr) (c1 : Nat), k ≤ vs.length ∧ ve = .int .i64 0 ∧ vi = .int .i64 k ∧ Hid (HJ w wr w1.heap.size A1 c1 (bldH p (vs.take k)))) (fun _ vi _ => vs.length - (intOf vi).toNat)
  case atStart => exact ⟨0, A0, c0, by omega, rfl, rfl, HJ0⟩
  case round =>
    clear HJ0
    obtain ⟨k, A1, c1, hk, rfl, rfl, HK⟩ := hrel
    by_cases hlt : k < vs.length
    · obtain ⟨bl, off, rfl, hbl, cv'⟩ := HA.out.at_ hlt
      have cv := (HK.out.bel.cell (p := ⟨bl, off + k, none⟩) hbl).trans cv'
      clear cv'
      obtain ⟨G, hG⟩ : ∃ G, G = bldH p (vs.take k) := ⟨_, rfl⟩
      obtain ⟨G2, hG2⟩ : ∃ G2, G2 = bldH p (vs.take (k + 1)) := ⟨_, rfl⟩
      rw [← hG] at HK
      obtain ⟨r0, r1, r2, r3, r4, r5⟩ := hist_cells HK.out.row
      have CA := Lib.hid (AD.out k hlt G2 hG2 G hG A1 c1 wr HK.out.ls)
      have HG2 := Lib.hid hG2
      clear hG hG2
      generalize vs[k] = v at *
      go_wp2_with fail
      with_reducible refine CA.out.mono ?_
      rintro e w3 ⟨A2, c2, rfl, hl, hf, hb⟩
      have HX := Lib.hid (HK.out.next hb hl hf (c2 := c2))
      have hr3 := (hb.block w1.heap.size HK.out.lt).trans HK.out.row
      clear r0 r1 r2 r3 r4 r5 cv hb hl hf
      obtain ⟨r0, r1, r2, r3, r4, r5⟩ := hist_cells hr3
      have rf0 := row_free hr3 0
      have rf1 := row_free hr3 1
      have rf2 := row_free hr3 2
      have rf3 := row_free hr3 3
      have rf4 := row_free hr3 4
      have rf5 := row_free hr3 5
      clear hr3
      go_wp2_with fail
      go_roundw
      case rel => exact ⟨k + 1, A2, c2, by omega, rfl, by go_num, by rw [← HG2.out]; exact HX.out⟩
      case measure => simp [intOf]; omega
    · obtain rfl : k = vs.length := by omega
      rw [List.take_length] at HK
      generalize bldH p vs = G at *
      obtain ⟨r0, r1, r2, r3, r4, r5⟩ := hist_cells HK.out.row
      obtain ⟨y0, y1, y2, y3, y4, y5⟩ := hist_cells HK.out.zero
      have rf0 := row_free HK.out.zero 0
      have rf1 := row_free HK.out.zero 1
      have rf2 := row_free HK.out.zero 2
      have rf3 := row_free HK.out.zero 3
      have rf4 := row_free HK.out.zero 4
      have rf5 := row_free HK.out.zero 5
      go_wp2_with fail
      obtain ⟨z0, z1, z2, z3, z4, z5⟩ := hist_cells (six_heap HK.out.zero (.int .i64 G.p) (.int .i64 G.c) (.int .i64 G.s) (.int .i64 G.mn) (.int .i64 G.mx) (.slice A1 G.bs.length c1))
      refine bodyPost_ret (v := .tuple #[hV G.p G.c G.s G.mn G.mx A1 G.bs.length c1, .bool true]) (by simp [results, Try.f35, go_sem, z0, z1, z2, z3, z4, z5]) rfl ?_
      have hgt := HK.out.gt
      exact ⟨A1, c1, rfl, ls_past (r := w.heap.size) HK.out.ls (fun hne => by obtain ⟨b, o, e, g⟩ := HK.out.far hne; exact ⟨b, o, e, by omega⟩) (fun q hq => six_other hq _ _ _ _ _ _) (by simp), six_below HK.out.bel (Nat.le_refl _) _ _ _ _ _ _⟩
end Go.Proofs.Ytffnopdpndpngaa.Lh
