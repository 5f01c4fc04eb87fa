/- Layer 12: the program's New, Reduce and Merge. -/
import Derived.Test.YtffnopdpndpngaaMk
set_option linter.unusedVariables false
set_option linter.unusedSimpArgs false
namespace Go.Proofs.Ytffnopdpndpngaa.Lh
open Go.RowKit
theorem row_free {W : World} {r : Nat} {cs : Array Value} {t : TypeId} (h : W.heap[r]? = some (.cells cs t (0, 0))) (j : Nat) : W.frozen? ⟨r, j, none⟩ = false := by simp [World.frozen?, h]
theorem HOut.zero {w w' : World} (n : Nat) (hb : Below w.heap.size w w') : HOut w (zeroH, n) (.returned (.tuple #[hV 0 0 0 0 0 none 0 0, .int .i64 n])) w' := ⟨none, 0, rfl, LS.nil _ _ _, fun h => (h rfl).elim, hb⟩
set_option maxHeartbeats 1000000 in
theorem pNew_any (p : Int) (w : World) :
    Calls Try.prog 16 #[.int .i64 p] w (HOut w (if p < 0 ∨ 8 < p then (zeroH, 2) else (newH p, 0))) := by
  have P := Lib.hid (isPre_any p)
  by_cases h : p < 0 ∨ 8 < p
  · rw [if_pos h]
    rw [decide_eq_false (show ¬ (0 ≤ p ∧ p ≤ 8) by omega)] at P
    go_enter Try.func16, Try.ntmps16
    go_wp2_with (go_at_call 38; (with_reducible refine (P.out _).mono ?_); rintro e w1 ⟨rfl, rfl⟩)
    refine bodyPost_ret (v := .tuple #[hV 0 0 0 0 0 none 0 0, .int .i64 2]) (by simp [results, Try.f16, go_sem]) rfl ?_
    exact HOut.zero 2 ((Below.refl _ _).alloc (Nat.le_refl _) _)
  · rw [if_neg h]
    rw [decide_eq_true (show 0 ≤ p ∧ p ≤ 8 by omega)] at P
    go_enter Try.func16, Try.ntmps16
    go_wp2_with (go_at_call 38; (with_reducible refine (P.out _).mono ?_); rintro e w1 ⟨rfl, rfl⟩)
    refine bodyPost_ret (v := .tuple #[hV p 0 0 0 0 none 0 0, .int .i64 0]) (by simp [results, Try.f16, go_sem]) rfl ?_
    exact ⟨none, 0, rfl, LS.nil _ _ _, fun h => (h rfl).elim, (Below.refl _ _).alloc (Nat.le_refl _) _⟩
/-- The sums of valid histograms are small. -/
theorem Ok.sum {h : H} (o : Ok h) : 0 ≤ h.s ∧ h.s ≤ 2305843009213693952 := by
  by_cases hc : h.c = 0
  · have h1 := o.fits
    rw [← o.count, hc] at h1
    unfold fitsH at h1
    rw [if_pos rfl, decide_eq_true_eq] at h1
    omega
  · have F := o.fit hc
    have h1 := o.fits
    have g0 := F.mn0
    have g1 := F.le
    have g2 := F.mx
    have g3 := F.tot
    unfold fitsH at h1
    rw [if_neg (by omega), if_neg (by omega)] at h1
    have ha := o.asc
    have hp := o.pos
    have ht := o.tot
    have hr := o.rng
    cases hb : h.bs with
    | nil => rw [hb] at h1; exact (Bool.false_ne_true h1).elim
    | cons b r =>
      rw [hb] at h1 ha hp ht hr
      simp only at h1
      split at h1
      · exact (Bool.false_ne_true h1).elim
      · split at h1
        · rw [decide_eq_true_eq] at h1
          omega
        · rw [decide_eq_true_eq, leastH_W ha, mostH_W ha] at h1
          have hF : ∀ j, j ≤ topI h.p → 0 ≤ FL h.p h.mn b j ∧ FL h.p h.mn b j ≤ 1099511627776 := fun j hj => by
            have := loI_le (p := h.p) hj
            unfold FL
            split <;> omega
          have hG : ∀ j, 0 ≤ FH h.p h.mx (lastB b r) j ∧ FH h.p h.mx (lastB b r) j ≤ 1099511627776 := fun j => by
            have := hiI_le h.p j
            unfold FH
            split <;> omega
          have w1 := W_small hp ht (fun x hx => hF x.1 (hr x hx).2.1) (b :: r).length
          have w2 := W_small hp ht (fun x hx => hG x.1) (b :: r).length
          rw [List.take_length] at w1 w2
          have f2 := hG b.1
          have f1 := hF _ (hr _ (lastB_mem b r)).2.1
          have hl : FL h.p h.mn b (lastB b r).1 ≤ h.mx := by
            have h8 := F.lst (lastB b r) (by rw [hb]; exact lastB_mem b r)
            unfold FL
            split
            · exact g1
            · have h9 := ix_le (p := h.p.toNat) (v := h.mx.toNat) (i := (lastB b r).1.toNat)
              unfold ixI at h8
              have h10 := h9.1 (by omega)
              unfold loI
              omega
          omega
theorem puts_congr {f g : Int → Int} : ∀ {l m : List B}, (∀ b ∈ l, f b.1 = g b.1) → puts f m l = puts g m l
  | [], _, _ => rfl
  | b :: r, m, h => by
    show puts f (put (f b.1) b.2 m) r = puts g (put (g b.1) b.2 m) r
    rw [h b List.mem_cons_self]
    exact puts_congr fun x hx => h x (List.mem_cons_of_mem _ hx)
/-- A bucket's least value within Min is in the same bucket of a lower precision as its least value. -/
theorem low_key {h : H} (o : Ok h) {q : Int} (h0 : 0 ≤ q) (hq : q ≤ h.p) : ∀ b ∈ h.bs, ixI q (max (loI h.p b.1) h.mn) = ixI q (loI h.p b.1) := fun b hb => by
  have hc : h.c ≠ 0 := by
    rw [o.count]
    have h1 := cf_mem o.pos hb
    have h2 := o.pos b hb
    have h3 := cf_le_tot o.pos b.1
    omega
  have F := o.fit hc
  have hr := o.rng b hb
  have hl := loI_le (p := h.p) hr.2.1
  by_cases e : h.mn ≤ loI h.p b.1
  · rw [show max (loI h.p b.1) h.mn = loI h.p b.1 by omega]
  · have e1 : max (loI h.p b.1) h.mn = h.mn := by omega
    have h5 := F.fst b hb
    have h6 : b.1 ≤ ixI h.p h.mn := by
      have := (ixI_in (p := h.p) (v := h.mn) ⟨F.mn0, by have := F.le; have := F.mx; omega⟩).2
      have h7 := ix_le (p := h.p.toNat) (v := h.mn.toNat) (i := b.1.toNat)
      have h8 : lo h.p.toNat b.1.toNat ≤ h.mn.toNat := by unfold loI at e; have := F.mn0; omega
      have h9 := h7.2 h8
      unfold ixI
      omega
    have e2 : ixI h.p h.mn = b.1 := by omega
    rw [e1, ← e2, ixI_low h0 hq]
theorem tot_puts (f : Int → Int) (l m : List B) : tot (puts f m l) = tot m + tot l := by
  unfold tot
  rw [W_puts]
theorem red_bs {h : H} (o : Ok h) {q : Int} (h0 : 0 ≤ q) (hq : q ≤ h.p) (m : List B) : puts (fun j => ixI q (max (loI h.p j) h.mn)) m h.bs = puts (fun j => ixI q (loI h.p j)) m h.bs := puts_congr (low_key o h0 hq)
theorem Ok.c0 {h : H} (o : Ok h) (hc : h.c = 0) : h.bs = [] ∧ h.s = 0 ∧ h.mn = 0 ∧ h.mx = 0 := by
  have h1 := o.fits
  have h2 := o.count
  rw [← h2, hc] at h1
  unfold fitsH at h1
  rw [if_pos rfl, decide_eq_true_eq] at h1
  refine ⟨?_, h1.2⟩
  cases hb : h.bs with
  | nil => rfl
  | cons b r =>
    have hp := o.pos
    rw [hb] at hp h2
    obtain ⟨g1, g2⟩ := pos_cons.mp hp
    have := tot_nonneg g2
    rw [tot_cons] at h2
    omega
theorem Ok.mx0 {h : H} (o : Ok h) : 0 ≤ h.mx := by
  by_cases hc : h.c = 0
  · have := (o.c0 hc).2.2.2
    omega
  · have F := o.fit hc
    have := F.mn0
    have := F.le
    omega
theorem newH_ok {p : Int} (h0 : 0 ≤ p) (h8 : p ≤ 8) : Ok (newH p) := (Of.nil p).ok h0 h8 (fun v hv => by cases hv) (by simp) (by simp [newH])
/-- Joined with nothing of a lower precision: reduced. -/
theorem join_red {h : H} (o : Ok h) {q : Int} (h0 : 0 ≤ q) (hq : q ≤ h.p) : limH (joinH h (newH q)) = (redH h q, 0) := by
  have e : joinH h (newH q) = redH h q := by
    have hp : min h.p q = q := by omega
    refine H.ext2 hp (Int.add_zero _) (Int.add_zero _) ?_ ?_ ?_
    · show lstO h (newH q) = h.mn
      unfold lstO
      by_cases hc : h.c = 0
      · rw [if_pos hc, (o.c0 hc).2.2.1]
        rfl
      · rw [if_neg hc]
        exact if_pos rfl
    · show max h.mx 0 = h.mx
      have := o.mx0
      omega
    · show puts (fun j => ixI (min h.p q) (max (loI h.p j) h.mn)) [] h.bs = puts (fun j => ixI q (loI h.p j)) [] h.bs
      rw [hp]
      exact red_bs o h0 hq []
  rw [e]
  unfold limH
  have h1 := o.tot
  have h2 := o.count
  have h3 : (puts (fun j => ixI q (loI h.p j)) [] h.bs).length ≤ [].length + h.bs.length := puts_len (fun j => ixI q (loI h.p j)) h.bs []
  rw [List.length_nil] at h3
  have h4 := o.len
  rw [if_neg]
  show ¬ (1048576 < h.c ∨ 500 < (puts (fun j => ixI q (loI h.p j)) [] h.bs).length)
  omega
/-- Both of one precision: the counts of both. -/
theorem jb_mrg {x y : H} (ox : Ok x) (oy : Ok y) : jb x y = puts (fun j => j) (redH x (min x.p y.p)).bs (redH y (min x.p y.p)).bs := by
  have h0 : 0 ≤ min x.p y.p := by have := ox.p0; have := oy.p0; omega
  have e1 := red_bs ox h0 (show min x.p y.p ≤ x.p by omega) []
  have e2 := red_bs oy h0 (show min x.p y.p ≤ y.p by omega) (puts (fun j => ixI (min x.p y.p) (loI x.p j)) [] x.bs)
  have ej : jb x y = puts (fun j => ixI (min x.p y.p) (loI y.p j)) (puts (fun j => ixI (min x.p y.p) (loI x.p j)) [] x.bs) y.bs := by
    unfold jb
    rw [e1, e2]
  rw [ej]
  have a1 : Asc (puts (fun j => ixI (min x.p y.p) (loI x.p j)) [] x.bs) := puts_asc _ x.bs [] asc_nil
  have p1 : Pos (puts (fun j => ixI (min x.p y.p) (loI x.p j)) [] x.bs) := puts_pos _ x.bs [] ox.pos pos_nil
  have p2 : Pos (puts (fun j => ixI (min x.p y.p) (loI y.p j)) [] y.bs) := puts_pos _ y.bs [] oy.pos pos_nil
  show _ = puts (fun j => j) (puts (fun j => ixI (min x.p y.p) (loI x.p j)) [] x.bs) (puts (fun j => ixI (min x.p y.p) (loI y.p j)) [] y.bs)
  refine cf_ext (puts_asc _ _ _ a1) (puts_asc _ _ _ a1) (puts_pos _ _ _ oy.pos p1) (puts_pos _ _ _ p2 p1) fun j => ?_
  unfold cf
  simp only [W_puts, W, Int.zero_add]
theorem puts_nil_id : ∀ {l : List B}, Asc l → Pos l → puts (fun j => j) [] l = l := fun {l} ha hp => by
  refine cf_ext (puts_asc _ l [] asc_nil) ha (puts_pos _ l [] hp pos_nil) hp fun j => ?_
  unfold cf
  rw [W_puts]
  simp [W]
theorem red_len {h : H} (q : Int) : (redH h q).bs.length ≤ h.bs.length := by
  have h3 : (puts (fun j => ixI q (loI h.p j)) [] h.bs).length ≤ [].length + h.bs.length := puts_len (fun j => ixI q (loI h.p j)) h.bs []
  rw [List.length_nil] at h3
  show (puts (fun j => ixI q (loI h.p j)) [] h.bs).length ≤ _
  omega
theorem red_nil {h : H} (e : h.bs = []) (q : Int) : (redH h q).bs = [] := by
  show puts (fun j => ixI q (loI h.p j)) [] h.bs = []
  rw [e]
  rfl
theorem red_asc (h : H) (q : Int) : Asc (redH h q).bs := puts_asc (fun j => ixI q (loI h.p j)) h.bs [] asc_nil
theorem red_pos {h : H} (hp : Pos h.bs) (q : Int) : Pos (redH h q).bs := puts_pos (fun j => ixI q (loI h.p j)) h.bs [] hp pos_nil
theorem join_is {x y : H} (ox : Ok x) (oy : Ok y) : joinH x y = mrgH (redH x (min x.p y.p)) (redH y (min x.p y.p)) := by
  have hb := jb_mrg ox oy
  have m1 := ox.mx0
  have m2 := oy.mx0
  by_cases h1 : x.c = 0
  · obtain ⟨b1, s1, n1, x1⟩ := ox.c0 h1
    have e : mrgH (redH x (min x.p y.p)) (redH y (min x.p y.p)) = redH y (min x.p y.p) := if_pos h1
    rw [e]
    have hnil : (redH x (min x.p y.p)).bs = [] := red_nil b1 _
    rw [hnil] at hb
    refine H.ext2 rfl ?_ ?_ ?_ ?_ ?_
    · show x.c + y.c = y.c
      omega
    · show x.s + y.s = y.s
      omega
    · show lstO x y = y.mn
      exact if_pos h1
    · show max x.mx y.mx = y.mx
      omega
    · show jb x y = _
      rw [hb]
      exact puts_nil_id (red_asc y _) (red_pos oy.pos _)
  · by_cases h2 : y.c = 0
    · obtain ⟨b2, s2, n2, x2⟩ := oy.c0 h2
      have e : mrgH (redH x (min x.p y.p)) (redH y (min x.p y.p)) = redH x (min x.p y.p) := by
        unfold mrgH
        rw [if_neg (show ¬ (redH x (min x.p y.p)).c = 0 from h1), if_pos (show (redH y (min x.p y.p)).c = 0 from h2)]
      rw [e]
      have hnil : (redH y (min x.p y.p)).bs = [] := red_nil b2 _
      rw [hnil] at hb
      refine H.ext2 rfl ?_ ?_ ?_ ?_ ?_
      · show x.c + y.c = x.c
        omega
      · show x.s + y.s = x.s
        omega
      · show lstO x y = x.mn
        unfold lstO
        rw [if_neg h1, if_pos h2]
      · show max x.mx y.mx = x.mx
        omega
      · exact hb
    · have e : mrgH (redH x (min x.p y.p)) (redH y (min x.p y.p)) = ⟨min x.p y.p, x.c + y.c, x.s + y.s, min x.mn y.mn, max x.mx y.mx, puts (fun j => j) (redH x (min x.p y.p)).bs (redH y (min x.p y.p)).bs⟩ := by
        unfold mrgH
        rw [if_neg (show ¬ (redH x (min x.p y.p)).c = 0 from h1), if_neg (show ¬ (redH y (min x.p y.p)).c = 0 from h2)]
        rfl
      rw [e]
      refine H.ext2 rfl rfl rfl ?_ rfl hb
      show lstO x y = min x.mn y.mn
      unfold lstO
      rw [if_neg h1, if_neg h2]
theorem join_mrg {x y : H} (ox : Ok x) (oy : Ok y) : limH (joinH x y) = mrgO x y := by
  have hp : ¬ (chk x ≠ 0 ∨ chk y ≠ 0) := by
    have := chk_iff.2 ox
    have := chk_iff.2 oy
    omega
  rw [join_is ox oy]
  unfold mrgO
  rw [if_neg hp]
  by_cases h1 : x.c = 0
  · rw [if_pos (.inl h1)]
    have e : mrgH (redH x (min x.p y.p)) (redH y (min x.p y.p)) = redH y (min x.p y.p) := if_pos h1
    rw [e]
    have g1 := oy.count
    have g2 := oy.tot
    have g3 := red_len (h := y) (min x.p y.p)
    have g4 := oy.len
    exact if_neg (show ¬ (1048576 < y.c ∨ 500 < (redH y (min x.p y.p)).bs.length) by omega)
  · by_cases h2 : y.c = 0
    · rw [if_pos (.inr h2)]
      have e : mrgH (redH x (min x.p y.p)) (redH y (min x.p y.p)) = redH x (min x.p y.p) := by
        unfold mrgH
        rw [if_neg (show ¬ (redH x (min x.p y.p)).c = 0 from h1), if_pos (show (redH y (min x.p y.p)).c = 0 from h2)]
      rw [e]
      have g1 := ox.count
      have g2 := ox.tot
      have g3 := red_len (h := x) (min x.p y.p)
      have g4 := ox.len
      exact if_neg (show ¬ (1048576 < x.c ∨ 500 < (redH x (min x.p y.p)).bs.length) by omega)
    · rw [if_neg (by omega)]
end Go.Proofs.Ytffnopdpndpngaa.Lh
