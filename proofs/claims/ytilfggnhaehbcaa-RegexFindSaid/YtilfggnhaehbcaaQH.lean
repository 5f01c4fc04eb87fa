/- Layer 6: alternative of the automaton: the walk; every expression. -/
import Derived.Test.YtilfggnhaehbcaaQG
import Derived.Test.YtilfggnhaehbcaaQE
set_option linter.unusedVariables false
set_option linter.unusedSimpArgs false
namespace Go.Proofs.Ytilfggnhaehbcaa.Rx
open Go.RowKit
open Go.Shelf
attribute [local go_sem] Oper.semAt_some
theorem IA.fresh {l : List Pe} {B ab : Nat} {v : Value} {T : Nat → Prop} {M : List Nd} {nx : Nat} {A : Option Addr} {cap : Nat} {w : World} {pre : List (Fin l.length)} {W w1 w2 : World} {g : Nat} (h : IA l B ab v T M nx A cap w pre W)
    (b1 : Below W.heap.size W w1) (q1 : KeepsOthers W w1) (b2 : But (· = g) w1 w2) (q2 : KeepsOthers w1 w2) (e1 : W.heap.size = g) : IA l B ab v T M nx A cap w pre w2 := by
  have b3 : But (fun _ => False) W w2 := (But.of_below b1).trans b2 (fun n hn hs => by have hs : n = g := hs; omega)
  obtain ⟨v1, T1, ha1, hr1, ht1⟩ := h.aut
  exact ⟨h.b0.but b3 (fun h => h), h.b1.but b3 (fun h => h), h.b2.but b3 (fun h => h), h.but.trans b3 (fun _ _ h => h.elim), v1, T1, ha1.on b3 (fun _ h => h.elim), hr1, ht1⟩
set_option maxHeartbeats 4000000 in
set_option maxRecDepth 100000 in
theorem alt_in (l : List Pe) (H : ∀ p ∈ l, Fac81 p) (hw : wA l ≤ 200) (B ab : Nat) (v : Value) (T : Nat → Prop) (M : List Nd) (nx : Nat) (A : Option Addr) (cap : Nat) (w : World) (TT : Nat → Prop) (ha : Aut w B ab v T M) (hfs : FsV w TT A l) (hTT : ∀ n, TT n → n < B) (hnx : nx ≤ 1000000000) (hM : M.length + 50000 * wA l ≤ 900000000) :
    CallsIn Fence.wide 3 Try.prog 73 #[.pointer (some ⟨ab, 0, none⟩), .slice A l.length cap, .int .i64 (nx : Int)] w (AutP ab B v T w (cA l M nx).1 (cA l M nx).2) := by
  obtain ⟨Cs, hCs⟩ : ∃ Cs : Nat → List Value, ∀ j (hj : j < l.length), (∃ g, A = some ⟨g, 0, none⟩ ∧ TT g ∧ w.rangeAt g (j * 260) (Cs j)) ∧ PeV w TT (Cs j) l[j] := by
    have hex : ∀ j : Nat, ∃ C : List Value, ∀ hj : j < l.length, (∃ g, A = some ⟨g, 0, none⟩ ∧ TT g ∧ w.rangeAt g (j * 260) C) ∧ PeV w TT C l[j] := fun j => by
      by_cases hj : j < l.length
      · obtain ⟨g, h1, h2, h3⟩ := hfs (fun e => by rw [e] at hj; simp at hj)
        obtain ⟨C, h4, h5⟩ := h3.at_ j hj
        rw [Nat.zero_add] at h4
        exact ⟨C, fun _ => ⟨⟨g, h1, h2, h4⟩, h5⟩⟩
      · exact ⟨[], fun h => absurd h hj⟩
    exact ⟨fun j => Classical.choose (hex j), fun j hj => Classical.choose_spec (hex j) hj⟩
  have hl := wA_len l
  obtain ⟨W0, hW0⟩ : ∃ W0, W0 = (((w.alloc (.cells #[.pointer (some ⟨ab, 0, none⟩)] 109)).alloc (.cells #[.int .i64 (nx : Int)] 3)).alloc (.cells #[.slice A l.length cap] 43)) := ⟨_, rfl⟩
  have hsz : W0.heap.size = w.heap.size + 3 := by rw [hW0]; simp
  have hB0 : Below w.heap.size w W0 := by rw [hW0]; exact ((((Below.refl _ w).alloc (Nat.le_refl _) _).alloc (by simp) _).alloc (by simp; omega) _)
  have hab := ha.lt
  have hBab := ha.base
  have hT : ∀ n, T n → n < w.heap.size := fun n hn => (ha.sub n hn).2.1
  have k2 : Blk W0 (w.heap.size + 2) 43 [.slice A l.length cap] := by
    have h := Blk.new ((w.alloc (.cells #[.pointer (some ⟨ab, 0, none⟩)] 109)).alloc (.cells #[.int .i64 (nx : Int)] 3)) 43 [.slice A l.length cap]
    rw [hW0]
    simpa using h
  have k1 : Blk W0 (w.heap.size + 1) 3 [.int .i64 (nx : Int)] := by
    have h := (Blk.new (w.alloc (.cells #[.pointer (some ⟨ab, 0, none⟩)] 109)) 3 [.int .i64 (nx : Int)]).alloc (.cells #[.slice A l.length cap] 43)
    rw [hW0]
    simpa using h
  have k0 : Blk W0 w.heap.size 109 [.pointer (some ⟨ab, 0, none⟩)] := by
    rw [hW0]
    exact ((Blk.new w 109 [.pointer (some ⟨ab, 0, none⟩)]).alloc _).alloc _
  have I0 : Hid (IA l B ab v T M nx A cap w [] W0) := ⟨k0, k1, k2, But.of_below hB0, v, T, ha.on (S := fun _ => False) (But.of_below hB0) (fun _ h => h.elim), RowTo.refl _ _, fun n hn => .inl hn⟩
  have HAV := Lib.hid ha
  have ST : Hid (SeqStopsK Fence.wide 2 Try.prog 85 #[.pointer (some ⟨w.heap.size + 2, 0, none⟩)] (encB (n := l.length) Cs) (KpB B (w.heap.size + 2)) (fun ys => ys = bk l.length 0) (fun _ => True) l.length W0) := fun lc J Jx W hW hJ _ hY h0 => by
    have hkk : ∀ q : Addr, q.block < W0.heap.size → W.cell? q = W0.cell? q := fun q hq => hW.cell hq
    rcases Nat.eq_zero_or_pos l.length with hz | hz
    · exact backward1_in 2 (by omega) lc B (w.heap.size + 2) 0 cap l.length (by omega) Cs (fun j hj => by omega) (fun h => by omega) J Jx W hY (by have := hW.size; omega) A (fun h => by omega) ((hkk _ (by show _ + 2 < _; omega)).trans (k2.cell 0)) (fun j hj => by omega) h0
    · obtain ⟨⟨g, hg, hTg, _⟩, _⟩ := hCs 0 hz
      have hgB := hTT g hTg
      refine backward1_in 2 (by omega) lc B (w.heap.size + 2) g cap l.length (by omega) Cs (fun j hj => (hCs j hj).2.len.1) (fun _ => hgB) J Jx W hY (by have := hW.size; omega) A (fun _ => hg) ((hkk _ (by show _ + 2 < _; omega)).trans (k2.cell 0)) (fun j hj i u hu => ?_) h0
      obtain ⟨⟨g', hg', _, hr⟩, _⟩ := hCs j hj
      rw [hg] at hg'
      cases hg'
      exact (hkk _ (by show g < _; omega)).trans ((hB0.cell (p := ⟨g, _, none⟩) (by show g < _; omega)).trans (hr i u hu))
  have HCS := Lib.hid hCs
  have HH := Lib.hid H
  have HTT := Lib.hid hTT
  have HRM : Hid (∀ pre (x : Fin l.length), pre.length < l.length → (fA l M nx pre).2.length + 50000 * wF l[x] ≤ 900000000 ∧ (fA l M nx pre).1 ≤ 1000000000) := fun pre x hp => alt_room l M nx pre x hp hw hM hnx
  have HALL := Lib.hid (fA_all l M nx)
  clear ha hfs hCs H hTT k0 k1 k2 hw hM hnx hl
  refine callsIn_of_wp_marks Try.func73 rfl trivial ?_ rfl
  simp only [Try.ntmps73, List.size_toArray, List.length_cons, List.length_nil, Nat.reduceAdd, Nat.reduceSub, Array.replicate_succ, Array.replicate_zero, List.push_toArray, List.append_toArray, List.nil_append, List.cons_append]
  gi_wp2_with (refine ⟨trivial, ?_⟩; gi_at_call 80; with_reducible refine (callsIn_wide.2 (backward_any _ _ _ _)).mono ?_; rintro e w' ⟨rfl, rfl⟩)
  rw [← hW0]
  clear hW0
  refine wpIn_rangeFunc_ownH rfl (by omega) (gf := 85) (lb := #[.pointer (some ⟨w.heap.size + 2, 0, none⟩)]) rfl trivial (enters_of Try.func85 (by kernel_rfl) rfl)
    ST.out (fun h k => h.trans k) (fun W l o o' hl h hc _ => ⟨belowK_b (w := W0) (n₀ := B) (by omega) W l o o' hl h hc ‹_›, World.putObj_heap_other (by omega)⟩) (Below.refl _ _) (fun _ => rfl)
    (fun pre W => IA l B ab v T M nx A cap w pre W)
    (fun cc pre W => False)
    (fun s A B row h hg hr => h.kept hg (fun r e => ⟨by have := (hr r e).1; omega, (hr r e).2⟩))
    (fun _ _ _ _ _ hs _ _ => hs)
    I0.out
    (fun x a' W => ∃ Bx, Blk W Bx 47 (Cs x.1) ∧ a' = { tmps := #[.pointer (some ⟨ab, 0, none⟩), .slice A l.length cap, .int .i64 (nx : Int), .pointer (some ⟨w.heap.size, 0, none⟩), undef, .pointer (some ⟨w.heap.size + 1, 0, none⟩), .int .i64 0, undef, .pointer (some ⟨Bx, 0, none⟩), .slice A l.length cap, .func (.func 85) #[] #[.pointer (some ⟨w.heap.size + 2, 0, none⟩)], .int .i64 (x.1 : Int), .agg (Cs x.1).toArray, undef, undef, undef, undef, undef], defers := [] })
    (fun x a' _ A B row hs hg hr => by
      obtain ⟨Bx, i2, i3⟩ := hs
      exact ⟨Bx, blk_kept i2 hg (fun r e => (hr r e).2), i3⟩)
    ?assign ?body ?done ?stop
  case assign =>
    rintro lc pre x W K hI hK
    have HI := Lib.hid hI
    have HL := Lib.hid (HCS.out x.1 x.2).2.len
    have hK' : Hid _ := Lib.hid hK
    clear hI hK
    dsimp only [encB]
    generalize Cs x.1 = C at *
    simp only [List.zip_toArray, List.zip_cons_cons, List.zip_nil_right, List.zip_nil_left, List.foldl_toArray', List.foldl_toArray, List.foldl_cons, List.foldl_nil, List.size_toArray, List.length_cons, List.length_nil, Nat.reduceAdd, List.setIfInBounds_toArray, List.set_cons_succ, List.set_cons_zero]
    refine wpIn_region_lit ?_
    refine wpListIn_alloc_abs (o := ⟨some 8, .alloc 47, _, _, _, _⟩) rfl 47 rfl (facL none_ (.slice none 0 0) false 0 0) zero47 ?_
    intro g1 w1 e1 k1 q1 b1 s1
    refine wpListIn_store_abs (o := ⟨_, .store 47 (.tmp 8) (.tmp 12), _, _, _, _⟩) rfl 47 _ _ rfl rfl g1 C rfl rfl 47 (facL none_ (.slice none 0 0) false 0 0) k1.out 260 size47 HL.out.1 (facL_len _ _ _ _ _) HL.out.2 ?_
    intro w2 k2 q2 b2 s2
    refine wpListIn_nil ?_
    exact hK'.out _ _ (KeepsOthers.from (q1.out.trans q2.out) _) ⟨(b1.out.mono (by have := HI.out.b2.lt; omega)).trans (b2.out.below (by have := HI.out.b2.lt; have := s1.out; have := e1.out; omega) (fun n hn => by have := HI.out.b2.lt; have := e1.out; omega)), (b2.out.block _ (by have := HI.out.b2.lt; have := s1.out; have := e1.out; omega) (fun hn => by have := HI.out.b2.lt; have := e1.out; omega)).trans (b1.out.block _ (by have := HI.out.b2.lt; omega))⟩ (HI.out.fresh (b1.out) (q1.out) b2.out q2.out e1.out) ⟨g1, k2.out, rfl⟩
  case body =>
    rintro lc pre x a' W hl0 _ hI ⟨Bx, hB, rfl⟩ hlt
    obtain ⟨v1, T1, ha1, hr1, ht1⟩ := hI.aut
    have HRO := Lib.hid (HRM.out pre x hlt)
    have HPE := HCS.out x.1 x.2
    have HL := Lib.hid HPE.2.len
    have HBX := Lib.hid hB
    have hWs := hI.but.size
    have hc0 : W.cell? ⟨w.heap.size, 0, none⟩ = some (.pointer (some ⟨ab, 0, none⟩)) := hI.b0.cell 0
    have hc1 : W.cell? ⟨w.heap.size + 1, 0, none⟩ = some (.int .i64 ((fA l M nx pre).1 : Nat)) := hI.b1.cell 0
    have PW : PeV W TT (Cs x.1) l[x] := PeV.keep (fun _ h => h) (fun g j hg => (hI.but.cell (p := ⟨g, j, none⟩) (by have := HTT.out g hg; show g < _; omega) (fun hs => by
      have := HTT.out g hg
      rcases hs with hs | hs
      · have hs : g = ab := hs
        omega
      · have := (HAV.out.rowLt g hs.symm).1
        omega))) HPE.2
    have CF := Lib.hid (HH.out l[x] (List.getElem_mem _) B ab v1 T1 (fA l M nx pre).2 (fA l M nx pre).1 (Cs x.1) W TT ha1 PW HTT.out HRO.out.2 HRO.out.1)
    have SP : Hid (∀ (w2 : World) (v2 : Value) (T2 : Nat → Prop), Aut w2 B ab v2 T2 (cF l[x] (fA l M nx pre).2 (fA l M nx pre).1).2 → But (AutS ab v1) W w2 → RowTo W v1 v2 → (∀ n, T2 n → T1 n ∨ W.heap.size ≤ n) → _) := fun w2 v2 T2 h1 h2 h3 h4 => hI.step (w2 := w2) (x := x) hT (by omega) hab ha1 hr1 ht1 h1 h2 h3 h4
    clear hI ha1 hr1 ht1 PW HPE hB
    gi_wp2_with (first
      | ((with_reducible refine wpListIn_load_abs (o := ⟨_, .load 47 (.tmp 8), _, _, _, _⟩) rfl 47 _ rfl Bx 0 ?_ (Cs x.1) HBX.out.range _ Try.underlying47 rfl 260 size47 HL.out.1 ?_); (· rfl))
      | (refine ⟨trivial, ?_⟩; gi_at_call 81; refine (CallsIn.inRound lc (callsIn_wide.2 CF.out)).mono ?_; rintro e w2 ⟨rfl, v2, T2, a2, b2, r2, t2⟩; obtain ⟨hc2, hf2, hk2, hkp2, hI2⟩ := SP.out w2 v2 T2 a2.out b2.out r2.out t2.out))
    exact ⟨hk2.from _, hkp2, hI2⟩
  case done =>
    rintro D ys W hD hys hI hK
    subst hys
    obtain ⟨v1, T1, ha1, hr1, ht1⟩ := hI.aut
    have hc1 : W.cell? ⟨w.heap.size + 1, 0, none⟩ = some (.int .i64 ((fA l M nx (bk l.length 0)).1 : Nat)) := hI.b1.cell 0
    have hnc : ∀ r, some D = some r → ∃ o : Obj, W.heap[r]? = some o ∧ o.isCells = false := fun r e => by cases e; exact ⟨_, hK, rfl⟩
    have hg := grownBy_putObj' W D (.deferred none)
    have HP : Hid (AutP ab B v T w (cA l M nx).1 (cA l M nx).2 (.returned (.int .i64 ((cA l M nx).1 : Nat))) (W.putObj D (.deferred none))) := by
      rw [HALL.out] at ha1
      exact ⟨rfl, v1, T1, ha1.kept hg hnc, hI.but.grown hg (fun k e hk => by cases e; omega), hr1, fun n hn => (ht1 n hn).imp id (fun h => by omega)⟩
    rw [HALL.out] at hc1
    clear hI ha1 hr1 ht1
    gi_wp2
    refine ⟨by simp, .inl ⟨_, _, rfl, run_takeDeferred hK, ?_⟩⟩
    refine ⟨_, results_tmp (t := 6) rfl _ _ _, ?_⟩
    exact HP.out
  case stop =>
    rintro D c pre W _ _ h _
    exact h.elim
theorem alt_any (l : List Pe) (H : ∀ p ∈ l, Fac81 p) (hw : wA l ≤ 200) : Alt73 l := fun B ab v T M nx A cap w TT ha hfs hTT hnx hM => callsIn_wide.1 (alt_in l H hw B ab v T M nx A cap w TT ha hfs hTT hnx hM)
theorem fac_of (p : Pe) (H : Atom86 p) : Fac81 p := by
  cases h : p.rp with
  | one => exact factor_one p h H
  | opt => exact factor_opt p h H
  | star => exact factor_star p h H
  | plus => exact factor_plus p h H
mutual
theorem fac_all : ∀ (p : Pe), wF p ≤ 200 → Fac81 p
  | .byte c r, _ => fac_of _ (atom_byte_ c r)
  | .cls f r, _ => fac_of _ (atom_cls_ f r)
  | .sub e r, h => fac_of _ (atom_sub_ e r (expr_any e (alts_all e (by rw [wF] at h; omega))))
theorem facs_all : ∀ (l : List Pe), wA l ≤ 200 → ∀ p ∈ l, Fac81 p
  | [], _ => fun p hp => by cases hp
  | q :: l, h => List.forall_mem_cons.2 ⟨fac_all q (by rw [wA] at h; omega), facs_all l (by rw [wA] at h; omega)⟩
theorem alts_all : ∀ (e : List (List Pe)), wE e ≤ 200 → ∀ a ∈ e, Alt73 a
  | [], _ => fun a ha => by cases ha
  | b :: e, h => List.forall_mem_cons.2 ⟨alt_any b (facs_all b (by rw [wE] at h; omega)) (by rw [wE] at h; omega), alts_all e (by rw [wE] at h; omega)⟩
end
/-- **expression of the automaton, at every expression of no more than 200 states.** -/
theorem expr_all (x : List (List Pe)) (h : wE x ≤ 200) : Expr65 x := expr_any x (alts_all x h)
end Go.Proofs.Ytilfggnhaehbcaa.Rx
