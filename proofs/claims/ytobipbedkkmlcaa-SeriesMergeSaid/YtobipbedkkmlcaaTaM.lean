/- Layer 11: the reference's Merge. -/
import Derived.Test.YtobipbedkkmlcaaTaE
import Derived.Test.YtobipbedkkmlcaaTaK
set_option maxRecDepth 100000
set_option linter.unusedVariables false
set_option linter.unusedSimpArgs false
namespace Go.Proofs.Ytobipbedkkmlcaa.Sr
open Go.RowKit
theorem wr_nat {n : Nat} (h : n ≤ 100000) : wrap64 (n : Int) = (n : Int) := by unfold wrap64; omega
theorem wr_sum {n m : Nat} (h : n ≤ 100000) (h2 : m ≤ 100000) : wrap64 ((n : Int) + (m : Int)) = (n : Int) + (m : Int) := by unfold wrap64; omega
theorem i_pos {n : Nat} (h : 1 ≤ n) : (0 : Int) < (n : Int) := by omega
theorem i_one {n : Nat} (h : 1 ≤ n) : (1 : Int) ≤ (n : Int) := by omega
theorem i_eq0 {n : Nat} (h : 1 ≤ n) : ((n : Int) == 0) = false := by rw [beq_eq_false_iff_ne]; omega
theorem n_eq0 {n : Nat} (h : 1 ≤ n) : (n == 0) = false := by rw [beq_eq_false_iff_ne]; omega
theorem i_sum {n m : Nat} (h : 1 ≤ n) : (0 : Int) < (n : Int) + (m : Int) := by omega
theorem len_pos {x : S} {l : List S} {n : Nat} (h : (x :: l).length = n) : 1 ≤ n := by rw [← h]; simp
def slN : Value → Nat
  | .slice _ n _ => n
  | _ => 0
/-- Where the merging stands. -/
structure MAt (w wr : World) (a b ra rb m : List S) (A : Option Addr) (na ca : Nat) (B : Option Addr) (nb cb : Nat) (vo : Value) : Prop where
  la : LS w w.heap.size A ra
  lb : LS w w.heap.size B rb
  ea : ra.length = na
  eb : rb.length = nb
  ka : na ≤ ca
  kb : nb ≤ cb
  own : OwnS wr w.heap.size vo m
  bel : Below w.heap.size w wr
  eq : mrg a b = (mrg ra rb).map (m ++ ·)
  len : m.length + na + nb ≤ a.length + b.length
theorem map_app {m : List S} {x : S} {r : Option (List S)} : (r.map (x :: ·)).map (m ++ ·) = r.map ((m ++ [x]) ++ ·) := by
  cases r <;> simp
theorem mrg_right {y : S} {rb : List S} : mrg [] (y :: rb) = (mrg [] rb).map (y :: ·) := by rw [mrg_nil, mrg_nil]; rfl
theorem mrg_left {x : S} {ra : List S} : mrg (x :: ra) [] = (mrg ra []).map (x :: ·) := by rw [mrg_end, mrg_end]; rfl
theorem LS.tail_ {w : World} {B b off : Nat} {x : S} {l : List S} (h : LS w B (some ⟨b, off, none⟩) (x :: l)) {c : Nat} (hc : l.length + 1 ≤ c) : LS w B (if c = 1 then some ⟨b, off, none⟩ else some ⟨b, off + 2, none⟩) l := h.drop_ (k := 1) hc
theorem MAt.left {w wr w' : World} {a b ra rb m : List S} {x : S} {ba oa na ca : Nat} {B : Option Addr} {nb cb : Nat} {vo vo' : Value} (h : MAt w wr a b (x :: ra) rb m (some ⟨ba, oa, none⟩) na ca B nb cb vo) (hm : mrg (x :: ra) rb = (mrg ra rb).map (x :: ·)) (ho : OwnS w' w.heap.size vo' (m ++ [x])) (hb : Below w.heap.size w w') :
    MAt w w' a b ra rb (m ++ [x]) (if ca = 1 then some ⟨ba, oa, none⟩ else some ⟨ba, oa + 2, none⟩) (na - 1) (ca - 1) B nb cb vo' := by
  have e := h.ea
  rw [List.length_cons] at e
  have k := h.ka
  refine ⟨h.la.tail_ (by omega), h.lb, by omega, h.eb, by omega, h.kb, ho, hb, ?_, ?_⟩
  · rw [h.eq, hm, map_app]
  · have := h.len
    rw [List.length_append]
    simp only [List.length_cons, List.length_nil]
    omega
theorem MAt.right {w wr w' : World} {a b ra rb m : List S} {y : S} {bb ob nb cb : Nat} {A : Option Addr} {na ca : Nat} {vo vo' : Value} (h : MAt w wr a b ra (y :: rb) m A na ca (some ⟨bb, ob, none⟩) nb cb vo) (hm : mrg ra (y :: rb) = (mrg ra rb).map (y :: ·)) (ho : OwnS w' w.heap.size vo' (m ++ [y])) (hb : Below w.heap.size w w') :
    MAt w w' a b ra rb (m ++ [y]) A na ca (if cb = 1 then some ⟨bb, ob, none⟩ else some ⟨bb, ob + 2, none⟩) (nb - 1) (cb - 1) vo' := by
  have e := h.eb
  rw [List.length_cons] at e
  have k := h.kb
  refine ⟨h.la, h.lb.tail_ (by omega), h.ea, by omega, h.ka, by omega, ho, hb, ?_, ?_⟩
  · rw [h.eq, hm, map_app]
  · have := h.len
    rw [List.length_append]
    simp only [List.length_cons, List.length_nil]
    omega
theorem MAt.both {w wr w' : World} {a b ra rb m : List S} {x : S} {ba oa na ca bb ob nb cb : Nat} {vo vo' : Value} (h : MAt w wr a b (x :: ra) (x :: rb) m (some ⟨ba, oa, none⟩) na ca (some ⟨bb, ob, none⟩) nb cb vo) (ho : OwnS w' w.heap.size vo' (m ++ [x])) (hb : Below w.heap.size w w') :
    MAt w w' a b ra rb (m ++ [x]) (if ca = 1 then some ⟨ba, oa, none⟩ else some ⟨ba, oa + 2, none⟩) (na - 1) (ca - 1) (if cb = 1 then some ⟨bb, ob, none⟩ else some ⟨bb, ob + 2, none⟩) (nb - 1) (cb - 1) vo' := by
  have e := h.eb
  have e2 := h.ea
  rw [List.length_cons] at e e2
  have k := h.kb
  have k2 := h.ka
  refine ⟨h.la.tail_ (by omega), h.lb.tail_ (by omega), by omega, by omega, by omega, by omega, ho, hb, ?_, ?_⟩
  · rw [h.eq, mrg_eq, map_app]
  · have := h.len
    rw [List.length_append]
    simp only [List.length_cons, List.length_nil]
    omega
/-- One sample, appended to a row of the call's own. -/
theorem snoc_own {W : World} {B : Nat} {v : Value} {m : List S} {x : S} (h : W.ownsRow B 33 2 v (m.length + 1) (cellsL m ++ cellsL [x])) : OwnS W B v (m ++ [x]) := by
  unfold OwnS
  rw [List.length_append, cellsL_append]
  exact h
theorem one_reads (V : World) (x : S) : Reads (V.alloc (.cells #[.int .i64 x.1, .int .i64 x.2] 33)) (V.heap.size + 1) 2 (some ⟨V.heap.size, 0, none⟩) 1 (cellsL [x]) := by
  refine (LS.of_reads (B := V.heap.size + 1) (b := V.heap.size) (off := 0) (l := [x]) (by omega) fun j hj => ?_).reads
  have : j = 0 := by simpa using hj
  subst this
  exact ⟨by go_simp, by go_simp⟩
theorem row_ge_own {w : World} {B : Nat} {v : Value} {l : List S} (h : OwnS w B v l) : ∀ g, v.ownBlock = some g → B ≤ g := fun g e => (World.ownsRow.lt h g e).1
set_option maxHeartbeats 2000000 in
theorem refMerge_bad (a b : List S) (hl : a.length ≤ 100000) (hl2 : b.length ≤ 100000) (A1 A2 : Option Addr) (c1 c2 : Nat) (w : World) (hA : LS w w.heap.size A1 a) (hB : LS w w.heap.size A2 b) (h : chk 1 a ≠ 0 ∨ chk 1 b ≠ 0) :
    Calls Try.prog 26 #[.slice A1 a.length c1, .slice A2 b.length c2] w (OwnPost2 (mrgO a b) w) := by
  have HE := Lib.hid (mrgO_bad h)
  have C1 := Lib.hid (valid_any a hl A1 c1 w hA)
  have C2 : Hid (∀ W, Below w.heap.size w W → Calls Try.prog 28 #[.slice A2 b.length c2] W fun e w' => e = .returned (.bool (decide (chk 1 b = 0))) ∧ Below W.heap.size W w') := Lib.hid fun W hb => valid_any b hl2 A2 c2 W ((hB.below hb).more hb.size)
  clear hA hB
  by_cases h1 : chk 1 a ≠ 0
  · rw [decide_eq_false h1] at C1
    clear h1 h C2
    go_enter Try.func26, Try.ntmps26
    go_wp2_with (go_at_call 28; (with_reducible refine C1.out.mono ?_); rintro e w1 ⟨rfl, hb1⟩; have HB1 := Lib.hid hb1; clear hb1)
    go_ret2
    rw [HE.out]
    exact made_out HB1.out 1
  · have h2 : chk 1 b ≠ 0 := h.resolve_left h1
    rw [decide_eq_true (by omega)] at C1
    rw [decide_eq_false h2] at C2
    clear h1 h2 h
    go_enter Try.func26, Try.ntmps26
    go_wp2_with (first | (go_at_call 28; (with_reducible refine C1.out.mono ?_); rintro e w1 ⟨rfl, hb1⟩; have HB1 := Lib.hid hb1; clear hb1) | (go_at_call 28; (with_reducible refine (C2.out _ HB1.out).mono ?_); rintro e w2 ⟨rfl, hb2⟩; have HB2 := Lib.hid (HB1.out.trans (hb2.mono HB1.out.size)); clear hb2))
    go_ret2
    rw [HE.out]
    exact made_out HB2.out 1
set_option maxHeartbeats 8000000 in
theorem refMerge_good (a b : List S) (A1 A2 : Option Addr) (c1 c2 : Nat) (hc1 : a.length ≤ c1) (hc2 : b.length ≤ c2) (w : World) (hA : LS w w.heap.size A1 a) (hB : LS w w.heap.size A2 b) (ha : chk 1 a = 0) (hb : chk 1 b = 0) :
    Calls Try.prog 26 #[.slice A1 a.length c1, .slice A2 b.length c2] w (OwnPost2 (mrgO a b) w) := by
  have hl := chk_len ha
  have hl2 := chk_len hb
  have C1 := Lib.hid (valid_any a (by omega) A1 c1 w hA)
  have C2 : Hid (∀ W, Below w.heap.size w W → Calls Try.prog 28 #[.slice A2 b.length c2] W fun e w' => e = .returned (.bool (decide (chk 1 b = 0))) ∧ Below W.heap.size W w') := Lib.hid fun W hb => valid_any b (by omega) A2 c2 W ((hB.below hb).more hb.size)
  rw [decide_eq_true ha] at C1
  rw [decide_eq_true hb] at C2
  have GO : Hid (∀ r, mrg a b = some r → r.length ≤ 2000 → mrgO a b = (r, 0)) := Lib.hid fun r h hn => mrgO_ok ha hb h hn
  have GL : Hid (∀ r, mrg a b = some r → 2000 < r.length → mrgO a b = ([], 4)) := Lib.hid fun r h hn => mrgO_long ha hb h hn
  have GN : Hid (mrg a b = none → mrgO a b = ([], 16)) := Lib.hid fun h => mrgO_clash ha hb h
  have M0 : Hid (∀ W, Below w.heap.size w W → MAt w (W.alloc (.cells #[] 33)) a b a b [] A1 a.length c1 A2 b.length c2 (.slice (some ⟨W.heap.size, 0, none⟩) 0 0)) := Lib.hid fun W h => ⟨hA, hB, rfl, rfl, hc1, hc2, made_own h.size, h.alloc h.size _, by cases mrg a b <;> simp, by simp⟩
  clear hA hB ha hb
  generalize mrgO a b = res at *
  obtain ⟨i0, hi, hz0, hz1, hz2⟩ := info_parts infoS
  go_enter Try.func26, Try.ntmps26
  go_wp2_with (first | (go_at_call 28; (with_reducible refine C1.out.mono ?_); rintro e w1 ⟨rfl, hb1⟩; have HB1 := Lib.hid hb1; clear hb1) | (go_at_call 28; (with_reducible refine (C2.out _ HB1.out).mono ?_); rintro e w2 ⟨rfl, hb2⟩; have HB2 := Lib.hid (HB1.out.trans (hb2.mono HB1.out.size)); clear hb2))
  have M1 := Lib.hid (M0.out w2 HB2.out)
  clear M0 C1 C2 HB1 HB2
  go_loopw [0, 1, 6] (fun v0 v1 v6 wr => ∃ (ra rb m : List S) (A : Option Addr) (na ca : Nat) (B : Option Addr) (nb cb : Nat), v0 = .slice A na ca ∧ v1 = .slice B nb cb ∧ Hid (MAt w wr a b ra rb m A na ca B nb cb v6)) (fun v0 v1 _ _ => slN v0 + slN v1)
  case atStart => exact ⟨a, b, [], A1, a.length, c1, A2, b.length, c2, rfl, rfl, M1⟩
  case round =>
    clear M1
    obtain ⟨ra, rb, m, A, na, ca, B, nb, cb, rfl, rfl, H⟩ := hrel
    have ea := H.out.ea
    have eb := H.out.eb
    have ka := H.out.ka
    have kb := H.out.kb
    have hlen := H.out.len
    have hle : Hid (na ≤ 100000 ∧ nb ≤ 100000) := Lib.hid (by omega)
    have hml : m.length ≤ 100000 := by omega
    obtain ⟨A6, c6, rfl, _⟩ := H.out.own.form
    rcases ra with _ | ⟨x, ra⟩
    · rcases rb with _ | ⟨y, rb⟩
      · obtain rfl : na = 0 := by simpa using ea.symm
        obtain rfl : nb = 0 := by simpa using eb.symm
        have he : mrg a b = some m := by rw [H.out.eq, mrg_nil]; simp
        have HO := Lib.hid H.out.own
        have HB := Lib.hid H.out.bel
        clear H ea eb
        by_cases hlong : 2000 < m.length
        · have HE := Lib.hid (GL.out m he hlong)
          have hlong1 : (2000 : Int) < m.length := by omega
          clear he
          go_wp2
          go_ret2
          rw [HE.out]
          exact made_out HB.out 4
        · have HE := Lib.hid (GO.out m he (by omega))
          have hlong1 : ¬ (2000 : Int) < m.length := by omega
          clear he
          go_wp2
          go_ret2
          rw [HE.out]
          exact ⟨_, rfl, HO.out, HB.out⟩
      · obtain rfl : na = 0 := by simpa using ea.symm
        obtain ⟨bb, ob, rfl, hbb, hc0⟩ := H.out.lb (by simp)
        obtain ⟨h1', h2'⟩ := hc0 0 (by simp)
        have HC : Hid (∀ W, Below w.heap.size w W → W.cell? ⟨bb, ob, none⟩ = some (.int .i64 y.1) ∧ W.cell? ⟨bb, ob + 1, none⟩ = some (.int .i64 y.2)) := Lib.hid fun W h => ⟨(h.cell (p := ⟨bb, ob, none⟩) hbb).trans (by simpa using h1'), (h.cell (p := ⟨bb, ob + 1, none⟩) hbb).trans (by simpa using h2')⟩
        have pnb : 1 ≤ nb := len_pos eb
        clear hc0 h1' h2'
        obtain ⟨Dnb, hDnb⟩ : ∃ D, (if cb = 1 then some (⟨bb, ob, none⟩ : Addr) else some ⟨bb, ob + 2, none⟩) = D := ⟨_, rfl⟩
        have f1nb : (0 : Int) < (nb : Int) := i_pos pnb
        have f2nb : 0 < nb := pnb
        have f3nb : ((nb : Int) == 0) = false := i_eq0 pnb
        have f4nb : (nb == 0) = false := n_eq0 pnb
        have f5nb : decide ((0 : Int) < (nb : Int)) = true := decide_eq_true f1nb
        have f6nb : decide (0 < nb) = true := decide_eq_true f2nb
        have f7nb : (1 : Int) ≤ (nb : Int) := i_one pnb
        have H2 := Lib.hid (fun vo' w' ho hb => H.out.right mrg_right (vo' := vo') (w' := w') ho hb)
        rw [hDnb] at H2
        clear ea
        go_wp2
        go_quiet (fail)
        generalize nq = n1 at *
        go_wp2
        go_quiet (fail)
        go_wp2_with fail
        try rw [World.drewN_drewN]
        try rw [World.drewN_drewN]
        have HB := Lib.hid (below_drewN H.out.bel (n1 + nq))
        have HO : Hid (OwnS (wr.drewN (n1 + nq)) w.heap.size (.slice A6 m.length c6) m) := Lib.hid H.out.own
        clear H
        generalize wr.drewN (n1 + nq) = V at *
        have hsv := HB.out.size
        have O1 : Hid (∀ o, OwnS (V.alloc o).drew w.heap.size (.slice A6 m.length c6) m) := Lib.hid fun o => HO.out.below ((Below.refl _ _).alloc (Nat.le_refl _) _).drew
        have B1 : Hid (∀ o, Below w.heap.size w (V.alloc o).drew) := Lib.hid fun o => (HB.out.alloc hsv _).drew
        have R1 := Lib.hid (one_reads V y).drew
        obtain ⟨h1, h2⟩ := HC.out _ HB.out
        go_region_law (refine step_append_any _ (by rfl) (.tmp 76) (.tmp 80) 22 (by rfl) w.heap.size 33 i0 _ 2 16 Try.underlying22 hi hz0 hz1 hz2 rfl (by decide) (.slice A6 m.length c6) m.length (cellsL m) (by rfl) (O1.out _) (V.heap.size + 1) (some ⟨V.heap.size, 0, none⟩) 1 1 (cellsL [y]) (by rfl) R1.out (cellsL_one' _) (by simp only [maxLen]; omega) (by omega) (by simp; omega) ?_; intro va wa hoa hga _; have OA := Lib.hid hoa; have BA : Hid (Below w.heap.size w wa) := Lib.hid ((B1.out _).grown hga (by simp; omega) (row_ge_own HO.out)); clear hoa hga)
        all_goals
          go_simp
          go_wp2
          go_roundw
          case rel => exact ⟨_, _, _, _, _, _, _, _, _, rfl, rfl, H2.out _ _ (snoc_own OA.out) BA.out⟩
          case measure => simp [slN]; omega
    · rcases rb with _ | ⟨y, rb⟩
      · obtain rfl : nb = 0 := by simpa using eb.symm
        obtain ⟨ba, oa, rfl, hba, hc0⟩ := H.out.la (by simp)
        obtain ⟨h1', h2'⟩ := hc0 0 (by simp)
        have HC : Hid (∀ W, Below w.heap.size w W → W.cell? ⟨ba, oa, none⟩ = some (.int .i64 x.1) ∧ W.cell? ⟨ba, oa + 1, none⟩ = some (.int .i64 x.2)) := Lib.hid fun W h => ⟨(h.cell (p := ⟨ba, oa, none⟩) hba).trans (by simpa using h1'), (h.cell (p := ⟨ba, oa + 1, none⟩) hba).trans (by simpa using h2')⟩
        have pna : 1 ≤ na := len_pos ea
        clear hc0 h1' h2'
        obtain ⟨Dna, hDna⟩ : ∃ D, (if ca = 1 then some (⟨ba, oa, none⟩ : Addr) else some ⟨ba, oa + 2, none⟩) = D := ⟨_, rfl⟩
        have f1na : (0 : Int) < (na : Int) := i_pos pna
        have f2na : 0 < na := pna
        have f3na : ((na : Int) == 0) = false := i_eq0 pna
        have f4na : (na == 0) = false := n_eq0 pna
        have f5na : decide ((0 : Int) < (na : Int)) = true := decide_eq_true f1na
        have f6na : decide (0 < na) = true := decide_eq_true f2na
        have f7na : (1 : Int) ≤ (na : Int) := i_one pna
        have H2 := Lib.hid (fun vo' w' ho hb => H.out.left mrg_left (vo' := vo') (w' := w') ho hb)
        rw [hDna] at H2
        clear eb
        go_wp2
        go_quiet (fail)
        go_wp2_with fail
        try rw [World.drewN_drewN]
        try rw [World.drewN_drewN]
        have HB := Lib.hid (below_drewN H.out.bel (nq))
        have HO : Hid (OwnS (wr.drewN (nq)) w.heap.size (.slice A6 m.length c6) m) := Lib.hid H.out.own
        clear H
        generalize wr.drewN (nq) = V at *
        have hsv := HB.out.size
        have O1 : Hid (∀ o, OwnS (V.alloc o).drew w.heap.size (.slice A6 m.length c6) m) := Lib.hid fun o => HO.out.below ((Below.refl _ _).alloc (Nat.le_refl _) _).drew
        have B1 : Hid (∀ o, Below w.heap.size w (V.alloc o).drew) := Lib.hid fun o => (HB.out.alloc hsv _).drew
        have R1 := Lib.hid (one_reads V x).drew
        obtain ⟨h1, h2⟩ := HC.out _ HB.out
        go_region_law (refine step_append_any _ (by rfl) (.tmp 42) (.tmp 46) 22 (by rfl) w.heap.size 33 i0 _ 2 16 Try.underlying22 hi hz0 hz1 hz2 rfl (by decide) (.slice A6 m.length c6) m.length (cellsL m) (by rfl) (O1.out _) (V.heap.size + 1) (some ⟨V.heap.size, 0, none⟩) 1 1 (cellsL [x]) (by rfl) R1.out (cellsL_one' _) (by simp only [maxLen]; omega) (by omega) (by simp; omega) ?_; intro va wa hoa hga _; have OA := Lib.hid hoa; have BA : Hid (Below w.heap.size w wa) := Lib.hid ((B1.out _).grown hga (by simp; omega) (row_ge_own HO.out)); clear hoa hga)
        all_goals
          go_simp
          go_wp2
          go_roundw
          case rel => exact ⟨_, _, _, _, _, _, _, _, _, rfl, rfl, H2.out _ _ (snoc_own OA.out) BA.out⟩
          case measure => simp [slN]; omega
      · obtain ⟨ba, oa, rfl, hba, hca⟩ := H.out.la (by simp)
        obtain ⟨hx1', hx2'⟩ := hca 0 (by simp)
        obtain ⟨bb, ob, rfl, hbb, hcb⟩ := H.out.lb (by simp)
        obtain ⟨hy1', hy2'⟩ := hcb 0 (by simp)
        have hx1 := (H.out.bel.cell (p := ⟨ba, oa, none⟩) hba).trans hx1'
        have hx2 := (H.out.bel.cell (p := ⟨ba, oa + 1, none⟩) hba).trans hx2'
        have hy1 := (H.out.bel.cell (p := ⟨bb, ob, none⟩) hbb).trans hy1'
        have hy2 := (H.out.bel.cell (p := ⟨bb, ob + 1, none⟩) hbb).trans hy2'
        simp only [List.getElem_cons_zero] at hx1 hx2 hy1 hy2
        have HXC : Hid (∀ W, Below w.heap.size w W → W.cell? ⟨ba, oa, none⟩ = some (.int .i64 x.1) ∧ W.cell? ⟨ba, oa + 1, none⟩ = some (.int .i64 x.2)) := Lib.hid fun W h => ⟨(h.cell (p := ⟨ba, oa, none⟩) hba).trans (by simpa using hx1'), (h.cell (p := ⟨ba, oa + 1, none⟩) hba).trans (by simpa using hx2')⟩
        have HYC : Hid (∀ W, Below w.heap.size w W → W.cell? ⟨bb, ob, none⟩ = some (.int .i64 y.1) ∧ W.cell? ⟨bb, ob + 1, none⟩ = some (.int .i64 y.2)) := Lib.hid fun W h => ⟨(h.cell (p := ⟨bb, ob, none⟩) hbb).trans (by simpa using hy1'), (h.cell (p := ⟨bb, ob + 1, none⟩) hbb).trans (by simpa using hy2')⟩
        have pna : 1 ≤ na := len_pos ea
        have pnb : 1 ≤ nb := len_pos eb
        clear hca hcb hx1' hx2' hy1' hy2'
        obtain ⟨Dna, hDna⟩ : ∃ D, (if ca = 1 then some (⟨ba, oa, none⟩ : Addr) else some ⟨ba, oa + 2, none⟩) = D := ⟨_, rfl⟩
        obtain ⟨Dnb, hDnb⟩ : ∃ D, (if cb = 1 then some (⟨bb, ob, none⟩ : Addr) else some ⟨bb, ob + 2, none⟩) = D := ⟨_, rfl⟩
        have f1na : (0 : Int) < (na : Int) := i_pos pna
        have f2na : 0 < na := pna
        have f3na : ((na : Int) == 0) = false := i_eq0 pna
        have f4na : (na == 0) = false := n_eq0 pna
        have f5na : decide ((0 : Int) < (na : Int)) = true := decide_eq_true f1na
        have f6na : decide (0 < na) = true := decide_eq_true f2na
        have f7na : (1 : Int) ≤ (na : Int) := i_one pna
        have f1nb : (0 : Int) < (nb : Int) := i_pos pnb
        have f2nb : 0 < nb := pnb
        have f3nb : ((nb : Int) == 0) = false := i_eq0 pnb
        have f4nb : (nb == 0) = false := n_eq0 pnb
        have f5nb : decide ((0 : Int) < (nb : Int)) = true := decide_eq_true f1nb
        have f6nb : decide (0 < nb) = true := decide_eq_true f2nb
        have f7nb : (1 : Int) ≤ (nb : Int) := i_one pnb
        have hsum : (0 : Int) < (na : Int) + (nb : Int) := i_sum pna
        by_cases h1 : x.1 < y.1
        · have hd1 := decide_eq_true h1
          have H2 := Lib.hid (fun vo' w' ho hb => H.out.left (mrg_lt h1) (vo' := vo') (w' := w') ho hb)
          rw [hDna] at H2
          clear h1 ea eb HYC
          go_wp2
          go_quiet (fail)
          go_wp2_with fail
          try rw [World.drewN_drewN]
          try rw [World.drewN_drewN]
          have HB := Lib.hid (below_drewN H.out.bel (nq))
          have HO : Hid (OwnS (wr.drewN (nq)) w.heap.size (.slice A6 m.length c6) m) := Lib.hid H.out.own
          clear H
          generalize wr.drewN (nq) = V at *
          have hsv := HB.out.size
          have O1 : Hid (∀ o, OwnS (V.alloc o).drew w.heap.size (.slice A6 m.length c6) m) := Lib.hid fun o => HO.out.below ((Below.refl _ _).alloc (Nat.le_refl _) _).drew
          have B1 : Hid (∀ o, Below w.heap.size w (V.alloc o).drew) := Lib.hid fun o => (HB.out.alloc hsv _).drew
          have R1 := Lib.hid (one_reads V x).drew
          have hx := HXC.out _ HB.out
          obtain ⟨hx1, hx2⟩ := hx
          go_region_law (refine step_append_any _ (by rfl) (.tmp 42) (.tmp 46) 22 (by rfl) w.heap.size 33 i0 _ 2 16 Try.underlying22 hi hz0 hz1 hz2 rfl (by decide) (.slice A6 m.length c6) m.length (cellsL m) (by rfl) (O1.out _) (V.heap.size + 1) (some ⟨V.heap.size, 0, none⟩) 1 1 (cellsL [x]) (by rfl) R1.out (cellsL_one' _) (by simp only [maxLen]; omega) (by omega) (by simp; omega) ?_; intro va wa hoa hga _; have OA := Lib.hid hoa; have BA : Hid (Below w.heap.size w wa) := Lib.hid ((B1.out _).grown hga (by simp; omega) (row_ge_own HO.out)); clear hoa hga)
          all_goals
            go_simp
            go_wp2
            go_roundw
            case rel => exact ⟨_, _, _, _, _, _, _, _, _, rfl, rfl, H2.out _ _ (snoc_own OA.out) BA.out⟩
            case measure => simp [slN]; omega
        · have hd1 := decide_eq_false h1
          by_cases h2 : x.1 = y.1
          · have hd2 : (x.1 == y.1) = true := by simpa using h2
            by_cases h3 : x.2 = y.2
            · have hd3 : (x.2 != y.2) = false := by simp [h3]
              obtain rfl : x = y := Prod.ext h2 h3
              have H2 := Lib.hid (fun vo' w' ho hb => H.out.both (vo' := vo') (w' := w') ho hb)
              rw [hDna, hDnb] at H2
              clear h1 h2 h3 ea eb HXC
              go_wp2
              go_quiet (fail)
              generalize nq = n1 at *
              go_wp2
              go_quiet (fail)
              generalize nq = n2 at *
              go_wp2
              go_quiet (fail)
              go_wp2_with fail
              try rw [World.drewN_drewN]
              try rw [World.drewN_drewN]
              have HB := Lib.hid (below_drewN H.out.bel (n1 + n2 + nq))
              have HO : Hid (OwnS (wr.drewN (n1 + n2 + nq)) w.heap.size (.slice A6 m.length c6) m) := Lib.hid H.out.own
              clear H
              generalize wr.drewN (n1 + n2 + nq) = V at *
              have hsv := HB.out.size
              have O1 : Hid (∀ o, OwnS (V.alloc o).drew w.heap.size (.slice A6 m.length c6) m) := Lib.hid fun o => HO.out.below ((Below.refl _ _).alloc (Nat.le_refl _) _).drew
              have B1 : Hid (∀ o, Below w.heap.size w (V.alloc o).drew) := Lib.hid fun o => (HB.out.alloc hsv _).drew
              have R1 := Lib.hid (one_reads V x).drew
              have hy := HYC.out _ HB.out
              obtain ⟨hy1, hy2⟩ := hy
              go_region_law (refine step_append_any _ (by rfl) (.tmp 76) (.tmp 80) 22 (by rfl) w.heap.size 33 i0 _ 2 16 Try.underlying22 hi hz0 hz1 hz2 rfl (by decide) (.slice A6 m.length c6) m.length (cellsL m) (by rfl) (O1.out _) (V.heap.size + 1) (some ⟨V.heap.size, 0, none⟩) 1 1 (cellsL [x]) (by rfl) R1.out (cellsL_one' _) (by simp only [maxLen]; omega) (by omega) (by simp; omega) ?_; intro va wa hoa hga _; have OA := Lib.hid hoa; have BA : Hid (Below w.heap.size w wa) := Lib.hid ((B1.out _).grown hga (by simp; omega) (row_ge_own HO.out)); clear hoa hga)
              all_goals
                go_simp
                go_wp2
                go_roundw
                case rel => exact ⟨_, _, _, _, _, _, _, _, _, rfl, rfl, H2.out _ _ (snoc_own OA.out) BA.out⟩
                case measure => simp [slN]; omega
            · have hd3 : (x.2 != y.2) = true := by simpa using h3
              have HE := Lib.hid (GN.out (by rw [H.out.eq, mrg_clash h2 h3]; rfl))
              have HB := Lib.hid H.out.bel
              clear h1 h2 h3 ea eb HXC HYC H
              go_wp2
              go_quiet (fail)
              go_wp2
              go_quiet (fail)
              go_wp2
              go_quiet (fail)
              go_wp2
              go_ret2
              rw [HE.out]
              exact made_out (below_drewN HB.out _) 16
          · have hd2 : (x.1 == y.1) = false := by simpa using h2
            have H2 := Lib.hid (fun vo' w' ho hb => H.out.right (mrg_gt (show y.1 < x.1 by omega)) (vo' := vo') (w' := w') ho hb)
            rw [hDnb] at H2
            clear h1 h2 ea eb HXC
            go_wp2
            go_quiet (fail)
            generalize nq = n1 at *
            go_wp2
            go_quiet (fail)
            go_wp2_with fail
            try rw [World.drewN_drewN]
            try rw [World.drewN_drewN]
            have HB := Lib.hid (below_drewN H.out.bel (n1 + nq))
            have HO : Hid (OwnS (wr.drewN (n1 + nq)) w.heap.size (.slice A6 m.length c6) m) := Lib.hid H.out.own
            clear H
            generalize wr.drewN (n1 + nq) = V at *
            have hsv := HB.out.size
            have O1 : Hid (∀ o, OwnS (V.alloc o).drew w.heap.size (.slice A6 m.length c6) m) := Lib.hid fun o => HO.out.below ((Below.refl _ _).alloc (Nat.le_refl _) _).drew
            have B1 : Hid (∀ o, Below w.heap.size w (V.alloc o).drew) := Lib.hid fun o => (HB.out.alloc hsv _).drew
            have R1 := Lib.hid (one_reads V y).drew
            have hy := HYC.out _ HB.out
            obtain ⟨hy1, hy2⟩ := hy
            go_region_law (refine step_append_any _ (by rfl) (.tmp 76) (.tmp 80) 22 (by rfl) w.heap.size 33 i0 _ 2 16 Try.underlying22 hi hz0 hz1 hz2 rfl (by decide) (.slice A6 m.length c6) m.length (cellsL m) (by rfl) (O1.out _) (V.heap.size + 1) (some ⟨V.heap.size, 0, none⟩) 1 1 (cellsL [y]) (by rfl) R1.out (cellsL_one' _) (by simp only [maxLen]; omega) (by omega) (by simp; omega) ?_; intro va wa hoa hga _; have OA := Lib.hid hoa; have BA : Hid (Below w.heap.size w wa) := Lib.hid ((B1.out _).grown hga (by simp; omega) (row_ge_own HO.out)); clear hoa hga)
            all_goals
              go_simp
              go_wp2
              go_roundw
              case rel => exact ⟨_, _, _, _, _, _, _, _, _, rfl, rfl, H2.out _ _ (snoc_own OA.out) BA.out⟩
              case measure => simp [slN]; omega
theorem refMerge_any (a b : List S) (hl : a.length ≤ 100000) (hl2 : b.length ≤ 100000) (A1 A2 : Option Addr) (c1 c2 : Nat) (hc1 : a.length ≤ c1) (hc2 : b.length ≤ c2) (w : World) (hA : LS w w.heap.size A1 a) (hB : LS w w.heap.size A2 b) :
    Calls Try.prog 26 #[.slice A1 a.length c1, .slice A2 b.length c2] w (OwnPost2 (mrgO a b) w) := by
  by_cases h : chk 1 a ≠ 0 ∨ chk 1 b ≠ 0
  · exact refMerge_bad a b hl hl2 A1 A2 c1 c2 w hA hB h
  · exact refMerge_good a b A1 A2 c1 c2 hc1 hc2 w hA hB (by omega) (by omega)
end Go.Proofs.Ytobipbedkkmlcaa.Sr
