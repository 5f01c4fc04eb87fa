/- Layer 12: what the program's sums are; its hasValues and Check. -/
import Derived.Test.YtffnopdpndpngaaMc
import Derived.Test.YtffnopdpndpngaaMe
import Derived.Test.YtffnopdpndpngaaMLh
import Derived.BigQuiet
set_option linter.unusedVariables false
set_option linter.unusedSimpArgs false
namespace Go.Proofs.Ytffnopdpndpngaa.Lh
open Go.RowKit
theorem lsum_cons (c : Int) (q : It) (r : List It) : lsum c (q :: r) = lterm c q + lsum c r := by unfold lsum; rw [List.map_cons, List.sum_cons]
theorem gsum_cons (q : It) (r : List It) : gsum (q :: r) = gterm q + gsum r := by unfold gsum; rw [List.map_cons, List.sum_cons]
theorem W_cons (F : Int → Int) (b : B) (r : List B) : W F (b :: r) = b.2 * F b.1 + W F r := rfl
theorem lsum_its (p mn mx c : Int) : ∀ (a : Int) (b : B) (r : List B), Pos (b :: r) → a + tot (b :: r) = c → lsum c (its p mn mx a (b :: r)) = W (fun j => max (loI p j) mn) (b :: r) - max (loI p (lastB b r).1) mn
  | a, b, [], _, h => by
    rw [tot_cons, tot_nil] at h
    rw [its, lsum_cons, its, W_cons]
    show (if a + b.2 = c then b.2 - 1 else b.2) * max (loI p b.1) mn + 0 = _
    rw [if_pos (by omega), Int.sub_mul]
    show _ = b.2 * max (loI p b.1) mn + 0 - max (loI p b.1) mn
    omega
  | a, b, b' :: r, hp, h => by
    obtain ⟨h1, h2⟩ := pos_cons.mp hp
    obtain ⟨h3, h4⟩ := pos_cons.mp h2
    have h5 := tot_nonneg h4
    rw [tot_cons] at h
    have ih := lsum_its p mn mx c (a + b.2) b' r h2 (by omega)
    rw [tot_cons] at h
    rw [its, lsum_cons, ih, W_cons _ b (b' :: r)]
    show (if a + b.2 = c then b.2 - 1 else b.2) * max (loI p b.1) mn + _ = _
    rw [if_neg (by omega)]
    show _ = _ - max (loI p (lastB b' r).1) mn
    omega
theorem gsum_pos (p mn mx : Int) : ∀ (a : Int) (l : List B), Pos l → 1 ≤ a → gsum (its p mn mx a l) = W (fun j => min (hiI p j) mx) l
  | _, [], _, _ => rfl
  | a, b :: r, hp, ha => by
    obtain ⟨h1, h2⟩ := pos_cons.mp hp
    rw [its, gsum_cons, gsum_pos p mn mx (a + b.2) r h2 (by omega), W_cons]
    show (if a + b.2 = b.2 then b.2 - 1 else b.2) * min (hiI p b.1) mx + _ = _
    rw [if_neg (by omega)]
theorem gsum_its (p mn mx : Int) (b : B) (r : List B) (hp : Pos (b :: r)) : gsum (its p mn mx 0 (b :: r)) = W (fun j => min (hiI p j) mx) (b :: r) - min (hiI p b.1) mx := by
  obtain ⟨h1, h2⟩ := pos_cons.mp hp
  rw [its, gsum_cons, gsum_pos p mn mx _ r h2 (by omega), W_cons]
  show (if 0 + b.2 = b.2 then b.2 - 1 else b.2) * min (hiI p b.1) mx + _ = _
  rw [if_pos (by omega), Int.sub_mul]
  omega
theorem ixI_below {p v j : Int} (h0 : 0 ≤ v) (hj : 0 ≤ j) (h : ixI p v < j) : v < loI p j := by
  unfold ixI at h
  unfold loI
  have := (ix_lt (p := p.toNat) (v := v.toNat) (i := j.toNat)).1 (by omega)
  omega
theorem ixI_above {p v j : Int} (h0 : 0 ≤ v) (hj : 0 ≤ j) (h : j < ixI p v) : hiI p j < v := by
  unfold ixI at h
  have h1 := lo_lt (p := p.toNat) (i := j.toNat) (j := ix p.toNat v.toNat) (by omega)
  have h2 := (ix_in p.toNat v.toNat).1
  have h3 := pow_pos2 (kb p.toNat j.toNat)
  have e : hiI p j = ((min (lo p.toNat j.toNat + 2 ^ kb p.toNat j.toNat - 1) (2 ^ 40) : Nat) : Int) := rfl
  rw [e]
  generalize 2 ^ kb p.toNat j.toNat = x at *
  have h4 : min (lo p.toNat j.toNat + x - 1) (2 ^ 40) ≤ lo p.toNat j.toNat + x - 1 := Nat.min_le_left _ _
  generalize min (lo p.toNat j.toNat + x - 1) (2 ^ 40) = y at *
  omega
/-- The program's bounds of the sums are the document's. -/
theorem sums_are {p c s mn mx : Int} {b : B} {r : List B} (ha : Asc (b :: r)) (hp : Pos (b :: r)) (hr : ∀ x ∈ b :: r, 0 ≤ x.1 ∧ x.1 ≤ topI p) (h0 : 0 ≤ mn) (h1 : mn ≤ mx) (h2 : mx ≤ 1099511627776) (hf : ixI p mn = b.1) (hl : ixI p mx = (lastB b r).1) :
    mx + lsum (tot (b :: r)) (its p mn mx 0 (b :: r)) = leastH ⟨p, c, s, mn, mx, b :: r⟩ b r ∧ mn + gsum (its p mn mx 0 (b :: r)) = mostH ⟨p, c, s, mn, mx, b :: r⟩ b r := by
  have hlo : ∀ x ∈ b :: r, max (loI p x.1) mn = FL p mn b x.1 := fun x hx => by
    unfold FL
    by_cases e : x.1 = b.1
    · rw [if_pos e, e, ← hf]
      have := (ixI_in (p := p) (v := mn) ⟨h0, by omega⟩).1
      omega
    · rw [if_neg e]
      rcases List.mem_cons.mp hx with g | g
      · rw [g] at e; exact (e rfl).elim
      · have h3 := (asc_cons.mp ha).1 x g
        have h4 := ixI_below (p := p) (j := x.1) h0 (hr x hx).1 (by omega)
        omega
  have hhi : ∀ x ∈ b :: r, min (hiI p x.1) mx = FH p mx (lastB b r) x.1 := fun x hx => by
    unfold FH
    by_cases e : x.1 = (lastB b r).1
    · rw [if_pos e, e, ← hl]
      have := (ixI_in (p := p) (v := mx) ⟨by omega, h2⟩).2
      omega
    · rw [if_neg e]
      have h3 := lastB_max ha x hx
      have h4 := ixI_above (p := p) (v := mx) (j := x.1) (by omega) (hr x hx).1 (by omega)
      omega
  rw [lsum_its p mn mx _ 0 b r hp (by omega), gsum_its p mn mx b r hp, leastH_W ha, mostH_W ha, W_congr (F := fun j => max (loI p j) mn) (G := FL p mn b) hlo, W_congr (F := fun j => min (hiI p j) mx) (G := FH p mx (lastB b r)) hhi, hlo _ (lastB_mem b r), hhi b List.mem_cons_self]
  constructor
  · show _ = mx - mn + W (FL p mn b) (b :: r) + mn - FL p mn b (lastB b r).1
    omega
  · show _ = mn - mx + W (FH p mx (lastB b r)) (b :: r) + mx - FH p mx (lastB b r) b.1
    omega
theorem sums_bound {p c s mn mx : Int} {b : B} {r : List B} (ha : Asc (b :: r)) (hp : Pos (b :: r)) (ht : tot (b :: r) ≤ 1048576) (hr : ∀ x ∈ b :: r, 0 ≤ x.1 ∧ x.1 ≤ topI p) (h0 : 0 ≤ mn) (h1 : mn ≤ mx) (h2 : mx ≤ 1099511627776) :
    wrap64 (leastH ⟨p, c, s, mn, mx, b :: r⟩ b r) = leastH ⟨p, c, s, mn, mx, b :: r⟩ b r ∧ wrap64 (mostH ⟨p, c, s, mn, mx, b :: r⟩ b r) = mostH ⟨p, c, s, mn, mx, b :: r⟩ b r := by
  have hF : ∀ j, j ≤ topI p → 0 ≤ FL p mn b j ∧ FL p mn b j ≤ 1099511627776 := fun j hj => by
    have := loI_le (p := p) hj
    unfold FL
    split <;> omega
  have hG : ∀ j, 0 ≤ FH p mx (lastB b r) j ∧ FH p mx (lastB b r) j ≤ 1099511627776 := fun j => by
    have := hiI_le p j
    unfold FH
    split <;> omega
  have w1 := W_small hp ht (fun x hx => hF x.1 (hr x hx).2) (b :: r).length
  have w2 := W_small hp ht (fun x hx => hG x.1) (b :: r).length
  rw [List.take_length] at w1 w2
  have f1 := hF _ (hr _ (lastB_mem b r)).2
  have f2 := hG b.1
  rw [leastH_W ha, mostH_W ha]
  show wrap64 (mx - mn + W (FL p mn b) (b :: r) + mn - FL p mn b (lastB b r).1) = mx - mn + W (FL p mn b) (b :: r) + mn - FL p mn b (lastB b r).1 ∧ wrap64 (mn - mx + W (FH p mx (lastB b r)) (b :: r) + mx - FH p mx (lastB b r) b.1) = mn - mx + W (FH p mx (lastB b r)) (b :: r) + mx - FH p mx (lastB b r) b.1
  constructor <;> (refine wrap_in ?_; omega)
theorem one_bucket {b : B} {r : List B} (hp : Pos (b :: r)) (h : tot (b :: r) = 1) : r = [] ∧ b.2 = 1 := by
  obtain ⟨h1, h2⟩ := pos_cons.mp hp
  rw [tot_cons] at h
  cases r with
  | nil => rw [tot_nil] at h; exact ⟨rfl, by omega⟩
  | cons x t =>
    obtain ⟨h3, h4⟩ := pos_cons.mp h2
    have := tot_nonneg h4
    rw [tot_cons] at h
    omega
/-- What hasValues asks is what the document asks. -/
theorem fits_is {p s mn mx : Int} {b : B} {r : List B} (ha : Asc (b :: r)) (hp : Pos (b :: r)) (ht : tot (b :: r) ≤ 1048576) (hr : ∀ x ∈ b :: r, 0 ≤ x.1 ∧ x.1 ≤ topI p) (hp8 : 0 ≤ p ∧ p ≤ 8) :
    fitsH ⟨p, tot (b :: r), s, mn, mx, b :: r⟩ (tot (b :: r)) = (decide (¬ mx < mn) && (decide (¬ (p < 0 ∨ 8 < p ∨ mn < 0 ∨ 1099511627776 < mn) ∧ ixI p mn = b.1) && (decide (¬ (p < 0 ∨ 8 < p ∨ mx < 0 ∨ 1099511627776 < mx) ∧ ixI p mx = (lastB b r).1) &&
      (decide (wrap64 (mx + lsum (tot (b :: r)) (its p mn mx 0 (b :: r))) ≤ s) && decide (s ≤ wrap64 (mn + gsum (its p mn mx 0 (b :: r)))))))) := by
  have hpos : 1 ≤ tot (b :: r) := by
    obtain ⟨h1, h2⟩ := pos_cons.mp hp
    have := tot_nonneg h2
    rw [tot_cons]
    omega
  unfold fitsH
  rw [if_neg (by omega)]
  dsimp only
  by_cases c1 : mx < mn
  · rw [if_pos (by omega), decide_eq_false (by omega)]
    rfl
  rw [decide_eq_true c1, Bool.true_and]
  by_cases c2 : mn < 0 ∨ 1099511627776 < mx
  · rw [if_pos (by omega)]
    by_cases c3 : mn < 0
    · rw [decide_eq_false (p := ¬ (p < 0 ∨ 8 < p ∨ mn < 0 ∨ 1099511627776 < mn) ∧ ixI p mn = b.1) (by omega)]
      rfl
    · rw [decide_eq_false (p := ¬ (p < 0 ∨ 8 < p ∨ mx < 0 ∨ 1099511627776 < mx) ∧ ixI p mx = (lastB b r).1) (by omega), Bool.false_and, Bool.and_false]
  rw [if_neg (by omega)]
  by_cases c4 : ixI p mn = b.1
  · by_cases c5 : ixI p mx = (lastB b r).1
    · rw [if_neg (by omega), decide_eq_true (p := ¬ (p < 0 ∨ 8 < p ∨ mn < 0 ∨ 1099511627776 < mn) ∧ ixI p mn = b.1) (by omega), decide_eq_true (p := ¬ (p < 0 ∨ 8 < p ∨ mx < 0 ∨ 1099511627776 < mx) ∧ ixI p mx = (lastB b r).1) (by omega), Bool.true_and, Bool.true_and]
      obtain ⟨e1, e2⟩ := sums_are (c := tot (b :: r)) (s := s) ha hp hr (by omega) (by omega) (by omega) c4 c5
      obtain ⟨e3, e4⟩ := sums_bound (c := tot (b :: r)) (s := s) ha hp ht hr (show 0 ≤ mn by omega) (by omega) (show mx ≤ 1099511627776 by omega)
      rw [e1, e2, e3, e4]
      by_cases c6 : tot (b :: r) = 1
      · rw [if_pos c6]
        obtain ⟨g1, g2⟩ := one_bucket hp c6
        subst g1
        rw [leastH_W ha, mostH_W ha]
        simp only [W_cons, lastB, FL, FH, if_pos, W, g2]
        rw [← Bool.decide_and]
        refine decide_eq_decide.2 ?_
        omega
      · rw [if_neg c6, Bool.decide_and]
    · rw [if_pos (.inr c5), decide_eq_false (p := ¬ (p < 0 ∨ 8 < p ∨ mx < 0 ∨ 1099511627776 < mx) ∧ ixI p mx = (lastB b r).1) (by omega), Bool.false_and, Bool.and_false]
  · rw [if_pos (.inl c4), decide_eq_false (p := ¬ (p < 0 ∨ 8 < p ∨ mn < 0 ∨ 1099511627776 < mn) ∧ ixI p mn = b.1) (by omega)]
    rfl
theorem its_rg {p mn mx : Int} : ∀ {a : Int} {l : List B}, Pos l → (∀ x ∈ l, x.2 ≤ 1048576) → ∀ q ∈ its p mn mx a l, Rg q
  | _, [], _, _, q, hq => by cases hq
  | a, b :: r, hp, h, q, hq => by
    obtain ⟨h1, h2⟩ := pos_cons.mp hp
    rcases List.mem_cons.mp hq with e | e
    · rw [e]
      exact ⟨h1, h b List.mem_cons_self⟩
    · exact its_rg h2 (fun x hx => h x (List.mem_cons_of_mem _ hx)) q e
set_option maxRecDepth 100000 in
set_option maxHeartbeats 4000000 in
theorem hasValues_any (p s mn mx : Int) (l : List B) (hp : 0 ≤ p ∧ p ≤ 8) (hlen : l.length ≤ 500) (ha : Asc l) (hpos : Pos l) (ht : tot l ≤ 1048576) (hr : ∀ x ∈ l, 0 ≤ x.1 ∧ x.1 ≤ topI p ∧ x.2 ≤ 1048576) (hmn : inI mn) (hmx : inI mx) (A : Option Addr) (q : Nat) (w : World) (hL : LS w w.heap.size A l) :
    Calls Try.prog 46 #[hV p (tot l) s mn mx A l.length q] w fun e w' => e = .returned (.bool (fitsH ⟨p, tot l, s, mn, mx, l⟩ (tot l))) ∧ Below w.heap.size w w' := by
  have B0 : Hid (Below w.heap.size w (w.alloc (.cells #[.int .i64 p, .int .i64 (tot l), .int .i64 s, .int .i64 mn, .int .i64 mx, .slice A l.length q] 29))) := (Below.refl _ w).alloc (Nat.le_refl _) _
  cases l with
  | nil =>
    have HE : Hid (fitsH ⟨p, 0, s, mn, mx, []⟩ 0 = (decide (s = 0) && (decide (mn = 0) && decide (mx = 0)))) := by
      show (if (0 : Int) = 0 then decide ((0 : Int) = 0 ∧ s = 0 ∧ mn = 0 ∧ mx = 0) else _) = _
      rw [if_pos rfl, ← Bool.decide_and, ← Bool.decide_and]
      refine decide_eq_decide.2 ?_
      omega
    have e0 : tot [] = 0 := rfl
    rw [e0]
    clear B0
    by_cases h1 : s = 0 <;> by_cases h2 : mn = 0 <;> by_cases h3 : mx = 0
    all_goals
      go_enter Try.func46, Try.ntmps46
      go_wp2
      go_ret
      refine ⟨?_, (Below.refl _ w).alloc (Nat.le_refl _) _⟩
      rw [HE.out]
      simp [h1, h2, h3]
  | cons b r =>
    have HE := Lib.hid (fits_is (s := s) (mn := mn) (mx := mx) ha hpos ht (fun x hx => ⟨(hr x hx).1, (hr x hx).2.1⟩) hp)
    have hR := its_rg (p := p) (mn := mn) (mx := mx) (a := 0) hpos (fun x hx => (hr x hx).2.2)
    have C0 := Lib.hid (HC.new w 29 p (tot (b :: r)) s mn mx A (b :: r).length q)
    have L0 : Hid (LS (w.alloc (.cells #[.int .i64 p, .int .i64 (tot (b :: r)), .int .i64 s, .int .i64 mn, .int .i64 mx, .slice A (b :: r).length q] 29)) w.heap.size A (b :: r)) := hL.below B0.out
    have Z0 : Hid ((w.alloc (.cells #[.int .i64 p, .int .i64 (tot (b :: r)), .int .i64 s, .int .i64 mn, .int .i64 mx, .slice A (b :: r).length q] 29)).heap.size = w.heap.size + 1) := by show _ = _; simp
    have S0 : Hid (∀ V, Below (w.heap.size + 1) (w.alloc (.cells #[.int .i64 p, .int .i64 (tot (b :: r)), .int .i64 s, .int .i64 mn, .int .i64 mx, .slice A (b :: r).length q] 29)) V → Calls Try.prog 67 #[hV p (tot (b :: r)) s mn mx A (b :: r).length q] V fun e w' => e = .returned (.tuple #[.int .i64 (wrap64 (mx + lsum (tot (b :: r)) (its p mn mx 0 (b :: r)))), .int .i64 (wrap64 (mn + gsum (its p mn mx 0 (b :: r))))]) ∧ Below V.heap.size V w') := Lib.hid fun V hV =>
      sums_any p (tot (b :: r)) s mn mx (b :: r) hlen hp (fun x hx => ⟨(hr x hx).1, (hr x hx).2.1⟩) hpos ht hR hmn hmx A q V (((hL.below B0.out).below (hV.mono (Nat.le_succ _))).more (by have := hV.size; rw [Z0.out] at this; omega))
    have I1 := Lib.hid (isIn_any mn p b.1)
    have I2 := Lib.hid (isIn_any mx p (lastB b r).1)
    have hlast : lastB b r = (b :: r)[r.length]'(by simp) := lastB_get b r
    have hne : (b :: r).length = r.length + 1 := rfl
    have HLS := Lib.hid hlast
    have hl0 := L0.out.at_ (k := 0) (by simp)
    have hl1 := L0.out.at_ (k := r.length) (by simp)
    rw [← HLS.out] at hl1
    obtain ⟨bl, off, rfl, hbl, c0, -⟩ := hl0
    obtain ⟨bl', off', e', -, c1, -⟩ := hl1
    obtain ⟨rfl, rfl⟩ : bl = bl' ∧ off = off' := by simpa using e'
    simp only [List.getElem_cons_zero, Nat.zero_mul, Nat.add_zero] at c0
    have hT0 : tot (b :: r) ≠ 0 := by
      obtain ⟨g1, g2⟩ := pos_cons.mp hpos
      have := tot_nonneg g2
      rw [tot_cons]
      omega
    clear e' hlast hne hL hr hpos ht ha hR
    generalize wrap64 (mx + lsum (tot (b :: r)) (its p mn mx 0 (b :: r))) = X1 at *
    generalize wrap64 (mn + gsum (its p mn mx 0 (b :: r))) = X2 at *
    obtain ⟨q1, hq1⟩ : ∃ q1, q1 = decide (¬ (p < 0 ∨ 8 < p ∨ mn < 0 ∨ 1099511627776 < mn) ∧ ixI p mn = b.1) := ⟨_, rfl⟩
    obtain ⟨q2, hq2⟩ : ∃ q2, q2 = decide (¬ (p < 0 ∨ 8 < p ∨ mx < 0 ∨ 1099511627776 < mx) ∧ ixI p mx = (lastB b r).1) := ⟨_, rfl⟩
    rw [← hq1] at HE I1
    rw [← hq2] at HE I2
    clear hq1 hq2 HLS
    have hn0 : (0 : Int) < ((b :: r).length : Int) := by simp only [List.length_cons]; omega
    have hn1 : IntKind.i64.wrap (((b :: r).length : Int) - 1) = (r.length : Int) := by rw [IntWalk.i64_in _ (by simp only [List.length_cons] at hlen ⊢; omega)]; simp
    have hn2 : (r.length : Int) < ((b :: r).length : Int) := by simp only [List.length_cons]; omega
    have hn3 : wrap64 (((b :: r).length : Int) - 1) = (r.length : Int) := by simp only [List.length_cons] at hlen ⊢; unfold wrap64; omega
    have hlen2 : (b :: r).length ≤ 500 := hlen
    have HR : Hid (HC (w.alloc (.cells #[.int .i64 p, .int .i64 (tot (b :: r)), .int .i64 s, .int .i64 mn, .int .i64 mx, .slice (some ⟨bl, off, none⟩) (b :: r).length q] 29)) w.heap.size p (tot (b :: r)) s mn mx (some ⟨bl, off, none⟩) (b :: r).length q) := C0.out
    generalize b.1 = x1 at *
    generalize (lastB b r).1 = x2 at *
    generalize tot (b :: r) = T at *
    generalize hN : (b :: r).length = N at *
    clear hN
    generalize r.length = M at *
    clear L0 hlen
    go_enter Try.func46, Try.ntmps46
    go_wp2
    go_quiet (fail)
    have HB : Hid (Below (w.heap.size + 1) (w.alloc (.cells #[.int .i64 p, .int .i64 T, .int .i64 s, .int .i64 mn, .int .i64 mx, .slice (some ⟨bl, off, none⟩) N q] 29)) (World.drewN (w.alloc (.cells #[.int .i64 p, .int .i64 T, .int .i64 s, .int .i64 mn, .int .i64 mx, .slice (some ⟨bl, off, none⟩) N q] 29)) nq)) := Lib.hid (bel_drewN (Below.refl _ _) nq)
    generalize World.drewN (w.alloc (.cells #[.int .i64 p, .int .i64 T, .int .i64 s, .int .i64 mn, .int .i64 mx, .slice (some ⟨bl, off, none⟩) N q] 29)) nq = V at *
    generalize (w.alloc (.cells #[.int .i64 p, .int .i64 T, .int .i64 s, .int .i64 mn, .int .i64 mx, .slice (some ⟨bl, off, none⟩) N q] 29)) = W1 at *
    clear HR
    obtain ⟨m0, m1, m2, m3, m4, m5⟩ := C0.out.keep (Nat.lt_succ_self _) HB.out
    have BB : Hid (∀ V', Below (w.heap.size + 1) W1 V' → Below w.heap.size w V') := Lib.hid fun V' h => B0.out.trans (h.mono (Nat.le_succ _))
    by_cases c1 : mx < mn
    · have HE2 : Hid (fitsH ⟨p, T, s, mn, mx, b :: r⟩ T = false) := by show _ = _; rw [HE.out, decide_eq_false (by omega)]; rfl
      go_wp2
      go_ret
      exact ⟨by rw [HE2.out]; rfl, BB.out _ HB.out⟩
    rw [decide_eq_true (show mn ≤ mx by omega), Bool.true_and] at HE
    have c1' : ¬ mn > mx := c1
    cases q1 with
    | false =>
      have HE2 : Hid (fitsH ⟨p, T, s, mn, mx, b :: r⟩ T = false) := HE
      go_wp2_with (go_at_call 66; (with_reducible refine (I1.out _).mono ?_); rintro e wn ⟨rfl, hb1⟩; have HB := Lib.hid (HB.out.trans (hb1.mono (by have := HB.out.size; rw [Z0.out] at this; omega))); obtain ⟨m0, m1, m2, m3, m4, m5⟩ := C0.out.keep (Nat.lt_succ_self _) HB.out; clear hb1)
      go_ret
      exact ⟨by rw [HE2.out]; rfl, BB.out _ HB.out⟩
    | true =>
    cases q2 with
    | false =>
      have HE2 : Hid (fitsH ⟨p, T, s, mn, mx, b :: r⟩ T = false) := HE
      go_wp2_with (first | (go_at_call 66; (with_reducible refine (I1.out _).mono ?_); rintro e wn ⟨rfl, hb1⟩; have HB := Lib.hid (HB.out.trans (hb1.mono (by have := HB.out.size; rw [Z0.out] at this; omega))); obtain ⟨m0, m1, m2, m3, m4, m5⟩ := C0.out.keep (Nat.lt_succ_self _) HB.out; clear hb1) | (go_at_call 66; (with_reducible refine (I2.out _).mono ?_); rintro e wn ⟨rfl, hb1⟩; have HB := Lib.hid (HB.out.trans (hb1.mono (by have := HB.out.size; rw [Z0.out] at this; omega))); obtain ⟨m0, m1, m2, m3, m4, m5⟩ := C0.out.keep (Nat.lt_succ_self _) HB.out; clear hb1))
      go_ret
      exact ⟨by rw [HE2.out]; rfl, BB.out _ HB.out⟩
    | true =>
      rw [Bool.true_and, Bool.true_and] at HE
      by_cases c2 : X1 ≤ s
      · rw [decide_eq_true c2, Bool.true_and] at HE
        go_wp2_with (first | (go_at_call 66; (with_reducible refine (I1.out _).mono ?_); rintro e wn ⟨rfl, hb1⟩; have HB := Lib.hid (HB.out.trans (hb1.mono (by have := HB.out.size; rw [Z0.out] at this; omega))); obtain ⟨m0, m1, m2, m3, m4, m5⟩ := C0.out.keep (Nat.lt_succ_self _) HB.out; clear hb1) | (go_at_call 66; (with_reducible refine (I2.out _).mono ?_); rintro e wn ⟨rfl, hb1⟩; have HB := Lib.hid (HB.out.trans (hb1.mono (by have := HB.out.size; rw [Z0.out] at this; omega))); obtain ⟨m0, m1, m2, m3, m4, m5⟩ := C0.out.keep (Nat.lt_succ_self _) HB.out; clear hb1) | (go_at_call 67; (with_reducible refine (S0.out _ HB.out).mono ?_); rintro e wn ⟨rfl, hb1⟩; have HB := Lib.hid (HB.out.trans (hb1.mono (by have := HB.out.size; rw [Z0.out] at this; omega))); obtain ⟨m0, m1, m2, m3, m4, m5⟩ := C0.out.keep (Nat.lt_succ_self _) HB.out; clear hb1))
        go_ret
        exact ⟨by rw [HE.out]; rfl, BB.out _ HB.out⟩
      · rw [decide_eq_false c2, Bool.false_and] at HE
        go_wp2_with (first | (go_at_call 66; (with_reducible refine (I1.out _).mono ?_); rintro e wn ⟨rfl, hb1⟩; have HB := Lib.hid (HB.out.trans (hb1.mono (by have := HB.out.size; rw [Z0.out] at this; omega))); obtain ⟨m0, m1, m2, m3, m4, m5⟩ := C0.out.keep (Nat.lt_succ_self _) HB.out; clear hb1) | (go_at_call 66; (with_reducible refine (I2.out _).mono ?_); rintro e wn ⟨rfl, hb1⟩; have HB := Lib.hid (HB.out.trans (hb1.mono (by have := HB.out.size; rw [Z0.out] at this; omega))); obtain ⟨m0, m1, m2, m3, m4, m5⟩ := C0.out.keep (Nat.lt_succ_self _) HB.out; clear hb1) | (go_at_call 67; (with_reducible refine (S0.out _ HB.out).mono ?_); rintro e wn ⟨rfl, hb1⟩; have HB := Lib.hid (HB.out.trans (hb1.mono (by have := HB.out.size; rw [Z0.out] at this; omega))); obtain ⟨m0, m1, m2, m3, m4, m5⟩ := C0.out.keep (Nat.lt_succ_self _) HB.out; clear hb1))
        go_ret
        exact ⟨by rw [HE.out]; rfl, BB.out _ HB.out⟩
end Go.Proofs.Ytffnopdpndpngaa.Lh
