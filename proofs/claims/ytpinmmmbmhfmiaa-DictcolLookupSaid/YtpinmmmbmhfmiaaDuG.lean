/- Layer 10: the runs of a column, appended to bytes. -/
import Derived.Test.YtpinmmmbmhfmiaaDuF
set_option linter.unusedVariables false
set_option linter.unusedSimpArgs false
namespace Go.Proofs.Ytpinmmmbmhfmiaa.Dt
open Go.RowKit Go.Shelf Dc

attribute [local go_sem] Oper.semAt_some

theorem boxed_far {B b : Nat} {w : World} {ty : TypeId} {v : Value} (h : Boxed w b ty v) (hn : ty ≠ 5) : Far B b w := Far.boxed h hn
theorem idx_far {w : World} {b k : Nat} {d : List BA} {v : Value} {B : Nat} {t : List UInt8} (h : IdxM w b d k) (hO : OwnBy B w v t) : some b ≠ v.ownBlock := by
  obtain ⟨D, ⟨es, clock, hb, _⟩, _⟩ := h
  rcases hO.2 with ⟨rfl, _⟩ | ⟨g, cap, cur, rfl, _, hg, _⟩
  · simp [Value.ownBlock]
  · intro e
    obtain rfl : b = g := by simpa [Value.ownBlock] using e
    rw [hg] at hb
    cases hb
set_option maxRecDepth 100000 in
set_option maxHeartbeats 4000000 in
theorem appRuns_any (B : Nat) (d zs : List BA) (hd : d.length ≤ 2000) (hs : ∀ x ∈ d, x.size ≤ 1000) (hl : zs.length ≤ 100000) (hz : ∀ x ∈ zs, x ∈ d) (sv lv : Value) (m : Nat) (t : List UInt8) (ht : t.length ≤ 10000000) (w : World) (hB : B ≤ w.heap.size)
    (hO : OwnBy B w sv t) (hI : StrsAt B w lv zs) (hM : IdxM w m d d.length) :
    Calls Try.prog 53 #[sv, lv, .map (some m)] w fun e w' => ∃ v', e = .returned v' ∧ OwnBy B w' v' (t ++ runB d (rle zs)) ∧ Below B w w' := by
  obtain ⟨A, c0, rfl⟩ := own_form hO
  obtain ⟨a, cap, rfl, hI⟩ := hI
  refine (callsIn_wide (n := 6)).1 ?_
  refine callsIn_of_wp_marks Try.func53 rfl trivial ?_ rfl
  simp only [Try.ntmps53, List.size_toArray, List.length_cons, List.length_nil, Nat.reduceAdd, Nat.reduceSub, Array.replicate_succ, Array.replicate_zero, List.push_toArray, List.append_toArray, List.nil_append, List.cons_append]
  gi_wp2_with fail
  refine ⟨trivial, ?_⟩
  refine (runs_in _ a zs.length cap _).mono ?_
  rintro e w' ⟨rfl, rfl⟩
  gi_wp2_with fail
  obtain ⟨W0, hW0⟩ : ∃ W0, ((w.alloc (.cells #[.slice A t.length c0] 49)).alloc (.cells #[.map (some m)] 70)).alloc (.cells #[.slice a zs.length cap] 22) = W0 := ⟨_, rfl⟩
  have hb1 : Boxed W0 w.heap.size 49 (.slice A t.length c0) := by rw [← hW0]; exact ((Boxed.new w _ _).alloc _).alloc _
  have hb3 : Boxed W0 (w.heap.size + 1) 70 (.map (some m)) := by
    have h := Boxed.new (w.alloc (.cells #[.slice A t.length c0] 49)) 70 (.map (some m))
    rw [← hW0]
    have h2 := h.alloc (.cells #[.slice a zs.length cap] 22)
    simpa only [World.size_alloc] using h2
  have hb2 : Boxed W0 (w.heap.size + 2) 22 (.slice a zs.length cap) := by
    have h := Boxed.new ((w.alloc (.cells #[.slice A t.length c0] 49)).alloc (.cells #[.map (some m)] 70)) 22 (.slice a zs.length cap)
    rw [← hW0]
    simpa only [World.size_alloc] using h
  have hB0 : Below w.heap.size w W0 := by rw [← hW0]; exact (((Below.refl _ _).alloc (Nat.le_refl _) _).alloc (by simp) _).alloc (by simp only [World.size_alloc]; omega) _
  have hz0 : W0.heap.size = w.heap.size + 3 := by rw [← hW0]; simp only [World.size_alloc]
  rw [hW0]
  clear hW0
  have hO0 : OwnBy B W0 (.slice A t.length c0) t := hO.step hB0
  have hM0 : IdxM W0 m d d.length := hM.same (hB0.block m hM.lt)
  have hm0 : m < w.heap.size := hM.lt
  obtain ⟨b1, o, hL, hF1, hne1⟩ : ∃ b1 o, Lies b1 (w.heap.size + 2) o cap a zs W0 ∧ Far B b1 W0 ∧ b1 ≠ w.heap.size := by
    by_cases hn : 0 < zs.length
    · obtain ⟨b, off, rfl, hf, hc⟩ := hI hn
      exact ⟨b, off, ⟨hb2.cell, fun _ => rfl, fun j hj => (hB0.cell (p := ⟨b, off + j, none⟩) (show b < w.heap.size by omega)).trans (hc j hj)⟩, ⟨by omega, .inl hf⟩, by omega⟩
    · exact ⟨w.heap.size + 2, 0, ⟨hb2.cell, fun h => absurd h hn, fun j h => by omega⟩, Far.boxed hb2 (by decide), by omega⟩
  have hF2 : Far B (w.heap.size + 2) W0 := Far.boxed hb2 (by decide)
  have hF3 : Far B (w.heap.size + 1) W0 := Far.boxed hb3 (by decide)
  have hrl := rle_len zs
  clear hI
  refine wpIn_rangeFunc_ownG rfl (by omega) (gf := 92) (lb := #[.pointer (some ⟨w.heap.size + 2, 0, none⟩)]) rfl trivial (enters_of Try.func92 (by kernel_rfl) rfl)
    (runs_stops d 5 (by omega) b1 (w.heap.size + 2) o cap a zs hl hz W0 hF1.1 hF2.1 hL) (fun h k => h.trans k) (fun W l o o' hl h hc hw => KK.put (by have := hF1.1; omega) (by have := hF2.1; omega)) (Below.refl _ _) (fun _ => rfl)
    (fun pre W => ((KK b1 (w.heap.size + 2) W0 W ∧ KK m (w.heap.size + 1) W0 W) ∧ Below B W0 W) ∧ ∃ v, Boxed W w.heap.size 49 v ∧ W.ownsRow B 5 1 v (t ++ runB d (vals pre)).length (Lib.byteCells (t ++ runB d (vals pre))) ∧ True)
    (fun _ _ _ => False)
    (OwnFrom.and (OwnFrom.and (OwnFrom.and (kk_own hF1.1 hF2.1) (kk_own (by omega) hF3.1)) (ownFrom_below (by omega) (by omega))) (Own.from (holdsRow_own _ _ _ _ _ _ _ (fun _ _ => True)) _))
    (fun c s A B row h hg hr => h)
    ⟨⟨⟨⟨rfl, rfl⟩, ⟨rfl, rfl⟩⟩, Below.refl _ _⟩, _, hb1, by have h := hO0; unfold OwnBy at h; simpa [vals, runB] using h, trivial⟩
    (fun x => { tmps := #[.slice A t.length c0, .slice a zs.length cap, .map (some m), .pointer (some ⟨w.heap.size, 0, none⟩), undef, .pointer (some ⟨w.heap.size + 1, 0, none⟩), .slice none 0 0, .string x.1.1, .int .i64 (x.1.2 : Int), .slice a zs.length cap, .func (.func 92) #[] #[.pointer (some ⟨w.heap.size + 2, 0, none⟩)], .string x.1.1, .int .i64 (x.1.2 : Int), undef, undef, undef, undef, undef, undef, undef, undef, undef], defers := [] })
    ?assign ?body ?done ?stop
  case assign =>
    intro l x W K hK
    gi_wp2
    exact hK
  case body =>
    rintro l pre x W ⟨⟨⟨hkk, hkm⟩, hbW⟩, v, i3, i4, _⟩ hlt
    have hrb := prunB_len (by omega) pre
    have hlen : (t ++ runB d (vals pre)).length + 30 ≤ 140737488351232 := by rw [List.length_append]; omega
    have f1 := hF1.kept hkk.1 hbW.size
    have f2 := hF2.kept hkk.2 hbW.size
    have f3 := hF3.kept hkm.2 hbW.size
    have hmW := hM0.same hkm.1
    have hle := hbW.size
    obtain ⟨A', c', rfl⟩ := own_form i4
    have hc := i3.cell
    have hc5 : W.cell? ⟨w.heap.size + 1, 0, none⟩ = some (.map (some m)) := (World.cell?_of_block (a := ⟨w.heap.size + 1, 0, none⟩) hkm.2).trans hb3.cell
    obtain ⟨i, hi, hil, hix⟩ := idxI_mem x.2.1
    have hlook := hmW.look hil (hs _ (List.getElem_mem hil))
    rw [hix] at hlook
    have HS : Hid (t ++ runB d (vals (pre ++ [x])) = t ++ runB d (vals pre) ++ uv i ++ uv (x.1.2 - 1)) := Lib.hid (by rw [prunB_snoc, hi, Int.toNat_natCast]; simp only [List.append_assoc])
    have hBW : B ≤ W.heap.size := by omega
    have HF1 := Lib.hid f1
    have HF2 := Lib.hid f2
    have HF3 := Lib.hid f3
    have HMW := Lib.hid hmW
    have HO4 : Hid (OwnBy B W (.slice A' (t ++ runB d (vals pre)).length c') (t ++ runB d (vals pre))) := i4
    have HB3 := Lib.hid i3
    have HBW := Lib.hid hbW
    have HKK := Lib.hid hkk
    have HKM := Lib.hid hkm
    have hx := x.2.2
    have hx1 : (1 : Int) ≤ x.1.2 := by omega
    have hx2 : (x.1.2 : Int) ≤ 100000 := by omega
    generalize t ++ runB d (vals pre) = u at *
    clear hbW hkk hkm f1 f2 f3 i3 i4 hB0 hb1 hb2 hb3 hL hO hO0 hF1 hF2 hF3 hM hM0 hi hix hmW
    gi_wp2_with fail
    refine ⟨trivial, ?_⟩
    refine (CallsIn.inRound l (callsIn_wide.2 (pnum_any B i _ u W hBW HO4.out (by omega) (by omega)))).mono ?_
    rintro e W1 ⟨v1, rfl, ho1, hb1, hg1⟩
    have hl1 : (u ++ uv i).length + 10 ≤ 140737488351232 := by
      have h2 := uv_len9 (m := i) (by omega)
      rw [List.length_append]
      unfold uv
      omega
    have P2 := Lib.hid (pnum_any B (x.1.2 - 1) v1 _ W1 (Nat.le_trans hBW hg1.size) ho1 (by omega) hl1)
    rw [show ((x.1.2 - 1 : Nat) : Int) = (x.1.2 : Int) - 1 by omega] at P2
    gi_wp2_with fail
    refine ⟨trivial, ?_⟩
    refine (CallsIn.inRound l (callsIn_wide.2 P2.out)).mono ?_
    rintro e W2 ⟨v2, rfl, ho2, hb2, hg2⟩
    obtain ⟨u2, hu2⟩ : ∃ u2, u ++ uv i ++ uv (x.1.2 - 1) = u2 := ⟨_, rfl⟩
    rw [hu2] at ho2
    have HU2 := Lib.hid hu2
    clear hu2 P2 hlook
    have k1 : Boxed W1 w.heap.size 49 _ := HB3.out.kept hg1 (HB3.out.not_row (by decide) HO4.out)
    have k2 : Boxed W2 w.heap.size 49 _ := k1.kept hg2 (k1.not_row (by decide) ho1)
    have hv2 := k2.not_row (by decide) ho2
    have h1 : W1.heap[b1]? = W.heap[b1]? := HF1.out.row HO4.out hg1
    have h2 : W1.heap[w.heap.size + 2]? = W.heap[w.heap.size + 2]? := HF2.out.row HO4.out hg1
    have h3 : W2.heap[b1]? = W1.heap[b1]? := (HF1.out.kept h1 hg1.size).row ho1 hg2
    have h4 : W2.heap[w.heap.size + 2]? = W1.heap[w.heap.size + 2]? := (HF2.out.kept h2 hg1.size).row ho1 hg2
    have h5 : W1.heap[w.heap.size + 1]? = W.heap[w.heap.size + 1]? := HF3.out.row HO4.out hg1
    have h6 : W2.heap[w.heap.size + 1]? = W1.heap[w.heap.size + 1]? := (HF3.out.kept h5 hg1.size).row ho1 hg2
    have h7 : W1.heap[m]? = W.heap[m]? := hg1.block m HMW.out.lt (idx_far HMW.out HO4.out)
    have hM1 : IdxM W1 m d d.length := HMW.out.same h7
    have h8 : W2.heap[m]? = W1.heap[m]? := hg2.block m hM1.lt (idx_far hM1 ho1)
    have KO : KeepsOthers W W2 := (KeepsOthers.of_grownBy hg1 (row_cells HO4.out)).trans (KeepsOthers.of_grownBy hg2 (row_cells ho1))
    have hgs := fun q => grownBy_setCell' W2 w.heap.size q
    have KK1 : Hid (∀ q, KK b1 (w.heap.size + 2) W (W2.setCell ⟨w.heap.size, 0, none⟩ q)) := Lib.hid fun q => ⟨((hgs q).block b1 (Nat.lt_of_lt_of_le HF1.out.1 KO.size) (fun e => hne1 (by cases e; rfl))).trans (h3.trans h1), ((hgs q).block (w.heap.size + 2) (Nat.lt_of_lt_of_le HF2.out.1 KO.size) (fun e => by injection e with e; omega)).trans (h4.trans h2)⟩
    have KK2 : Hid (∀ q, KK m (w.heap.size + 1) W (W2.setCell ⟨w.heap.size, 0, none⟩ q)) := Lib.hid fun q => ⟨((hgs q).block m (Nat.lt_of_lt_of_le HMW.out.lt KO.size) (fun e => by injection e with e; omega)).trans (h8.trans h7), ((hgs q).block (w.heap.size + 1) (Nat.lt_of_lt_of_le HF3.out.1 KO.size) (fun e => by injection e with e; omega)).trans (h6.trans h5)⟩
    have KO1 : Hid (∀ q, KeepsOthers W (W2.setCell ⟨w.heap.size, 0, none⟩ q)) := Lib.hid fun q => KO.trans (KeepsOthers.setCell _ _ _)
    have BB1 : Hid (∀ q, Below B W0 (W2.setCell ⟨w.heap.size, 0, none⟩ q)) := Lib.hid fun q => ((HBW.out.trans hb1).trans hb2).setCell (p := ⟨w.heap.size, 0, none⟩) hB q
    have OW1 : Hid (∀ q, OwnBy B (W2.setCell ⟨w.heap.size, 0, none⟩ q) v2 u2) := Lib.hid fun q => World.ownsRow.kept ho2 (hgs q) (.inr fun e => hv2 e.symm)
    have BX1 : Hid (∀ q, Boxed (W2.setCell ⟨w.heap.size, 0, none⟩ q) w.heap.size 49 q) := Lib.hid fun q => k2.set q
    obtain ⟨A2, c2, rfl⟩ := own_form ho2
    have hc2 := k2.cell
    have hf2 := k2.frozen
    clear k1 k2 h1 h2 h3 h4 h5 h6 h7 h8 hM1 KO hgs ho1 ho2 hb1 hb2 hg1 hg2 hv2
    gi_wp2
    refine ⟨(KO1.out _).from _, KK1.out _, ⟨⟨HKK.out.trans (KK1.out _), HKM.out.trans (KK2.out _)⟩, BB1.out _⟩, _, BX1.out _, ?_, trivial⟩
    rw [HS.out, HU2.out]
    exact OW1.out _
  case done =>
    rintro D ys W hD hS ⟨⟨⟨hkk, hkm⟩, hbW⟩, v, i3, i4, _⟩ hK
    obtain ⟨u, hu⟩ : ∃ u, t ++ runB d (vals ys) = u := ⟨_, rfl⟩
    rw [hu] at i4
    have HU : Hid (u = t ++ runB d (rle zs)) := Lib.hid (by rw [← hu, hS])
    clear hu
    obtain ⟨A', c', rfl⟩ := own_form i4
    have hc := i3.cell
    have HO := Lib.hid (ownsRow_putObj i4 (.deferred none) hK rfl)
    have HB : Hid (Below B w (W.putObj D (.deferred none))) := Lib.hid (((hB0.mono hB).trans hbW).trans (belowK_b (w := w) hB W D _ (.deferred none) (by omega) hK rfl rfl))
    gi_wp2
    refine ⟨by simp, .inl ⟨_, _, rfl, run_takeDeferred hK, ?_⟩⟩
    exact ⟨_, results_tmp rfl _ _ _, _, rfl, by rw [← HU.out]; exact HO.out, HB.out⟩
  case stop =>
    rintro D c pre W hD hS h hK
    exact h.elim
end Go.Proofs.Ytpinmmmbmhfmiaa.Dt
