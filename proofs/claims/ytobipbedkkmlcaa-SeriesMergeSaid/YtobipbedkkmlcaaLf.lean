/- Layer 11: SeriesIncrease. -/
import Derived.Lib.QuietBelow
import Derived.Test.YtobipbedkkmlcaaLc
set_option maxRecDepth 100000
set_option linter.unusedVariables false
set_option linter.unusedSimpArgs false
namespace Go.Proofs.Ytobipbedkkmlcaa.Sr
open Go.RowKit
open Go.Sort (grow)
theorem LF.regrown {W : World} {A : Option Addr} {c : Nat} {l : List S} (h : LF W A c l) (dd : Nat) (os : Array Obj) : LF (grow (redrawn W dd) os) A c l := h.up (below_regrown W dd os)
theorem LF.take_ {W : World} {A : Option Addr} {c : Nat} {l : List S} (h : LF W A c l) (k : Nat) : LF W A c (l.take k) := ⟨h.ls.take_ k, Nat.le_trans (List.length_take_le' _ _) h.le, h.max, h.af⟩
theorem LF.drop_ {W : World} {b off : Nat} {c : Nat} {l : List S} (h : LF W (some ⟨b, off, none⟩) c l) {k : Nat} (hk : k ≤ c) : LF W (if c = k then some ⟨b, off, none⟩ else some ⟨b, off + k * 2, none⟩) (c - k) (l.drop k) :=
  ⟨h.ls.drop_ h.le, by rw [List.length_drop]; have := h.le; omega, Nat.le_trans (Nat.sub_le _ _) h.max, .inr (by by_cases e : c = k <;> simp [e])⟩
/-- What is known of a list at a place. -/
structure IncF (l : List S) (k : Nat) (N I1 I2 F L : Int) (R R1 R2 : Nat) : Prop where
  n : N = I1 + I2
  r : R = R1 + R2
  b1 : 0 ≤ I1 ∧ I1 ≤ 2199023255552000
  b2 : 0 ≤ I2 ∧ I2 ≤ 2199023255552000
  fi : 0 ≤ F ∧ F ≤ 1099511627776
  la : 0 ≤ L ∧ L ≤ 1099511627776
  low : L - F ≤ N
  eq : R = 0 → N = L - F
  lt : R < l.length
theorem inc_facts {l : List S} {k : Nat} (h : chk 2 l = 0) (hk : k < l.length) : IncF l k (incO l) (incO (l.take (k + 1))) (incO (l.drop k)) (l[0]'(by omega)).2 (l[l.length - 1]'(by omega)).2 (rstO l) (rstO (l.take (k + 1))) (rstO (l.drop k)) := by
  have hg := (chk_two.1 h).2
  have hlen := (chk_two.1 h).1
  have s := incO_split h hk
  have b1 := incO_far (l := l.take (k + 1)) (Nat.le_trans (List.length_take_le' _ _) hlen)
  have b2 := incO_far (l := l.drop k) (by rw [List.length_drop]; omega)
  have v : ∀ j (hj : j < l.length), 0 ≤ l[j].2 ∧ l[j].2 ≤ 1099511627776 := fun j hj => by
    have k1 := hg.1 _ (List.getElem_mem hj)
    have j1 := okS_iff.1 k1.1
    exact ⟨k1.2 rfl, by omega⟩
  have v0 := v 0 (by omega)
  have v1 := v (l.length - 1) (by omega)
  rcases l with _ | ⟨x, r⟩
  · simp at hk
  · have he : (x :: r).getLast? = some ((x :: r)[(x :: r).length - 1]'(by simp)) := by
      rw [List.getLast?_eq_getElem?, List.getElem?_eq_getElem]
    obtain ⟨l1, l2, l3, l4⟩ := incO_low h he
    exact ⟨s.1, s.2, b1, b2, v0, v1, l2, l3, l4⟩
set_option maxHeartbeats 8000000 in
theorem increase_walk (A : Option Addr) (c : Nat) (l : List S) (a : Int) (ha : 0 ≤ a ∧ a ≤ 255) (w : World) (hA : LF w A c l) :
    Calls Try.prog 8 #[.slice A l.length c, .int .u8 a] w fun e w' => e = .returned (.bool true) ∧ Below w.heap.size w w' := by
  have KA := Lib.hid awake_any
  have KG := Lib.hid (fun g w (h : g = w.heap.size) => great1_any A c l g w h)
  have B0 : Hid (∀ o1, Below w.heap.size w (w.alloc o1)) := Lib.hid fun o1 => (Below.refl _ _).alloc (Nat.le_refl _) _
  have BB := Lib.hid (B0.out (.cells #[.slice A l.length c] 22))
  cases hg : greatL l with
  | true =>
    rw [hg] at KG
    clear hA hg
    go_enter Try.func8, Try.ntmps8
    go_wp2_with fail
    with_reducible refine (KG.out _ _ (by simp)).mono ?_
    rintro e w0_ ⟨rfl, rfl⟩
    go_wp2_with fail
    with_reducible refine (KA.out _).mono ?_
    rintro e wz ⟨rfl, hb⟩
    have BB := Lib.hid (BB.out.trans (hb.mono BB.out.size))
    clear hb
    go_wp2
    go_ret
    exact ⟨rfl, BB.out⟩
  | false =>
    rw [hg] at KG
    have hl := not_great hg
    have LA := Lib.hid (hA.up BB.out)
    clear hA hg
    have K1 : Hid (∀ W, LF W A c l → Calls Try.prog 13 #[.int .i64 2, .slice A l.length c] W fun e w' => e = .returned (.int .i64 (chk 2 l : Nat)) ∧ Below W.heap.size W w') := Lib.hid fun W h => rCheck 2 (by omega) h
    by_cases hc : chk 2 l = 0
    · rw [hc] at K1
      by_cases hn : l = []
      · subst hn
        simp only [List.length_nil] at *
        go_enter Try.func8, Try.ntmps8
        go_wp2_with fail
        with_reducible refine (KG.out _ _ (by simp)).mono ?_
        rintro e w0_ ⟨rfl, rfl⟩
        go_wp2_with fail
        with_reducible refine (K1.out _ LA.out).mono ?_
        rintro e w1_ ⟨rfl, hb⟩
        have LA := Lib.hid (LA.out.up hb)
        have BB := Lib.hid (BB.out.trans (hb.mono BB.out.size))
        clear hb
        go_wp2_with fail
        with_reducible refine (KA.out _).mono ?_
        rintro e wz ⟨rfl, hb⟩
        have BB := Lib.hid (BB.out.trans (hb.mono BB.out.size))
        clear hb
        go_wp2
        go_ret
        exact ⟨rfl, BB.out⟩
      · have hpos : 0 < l.length := List.length_pos_iff.2 hn
        obtain ⟨k, hk⟩ : ∃ k : Nat, (k : Int) = a % (l.length : Int) := ⟨(a % (l.length : Int)).toNat, Int.toNat_of_nonneg (Int.emod_nonneg _ (by omega))⟩
        have hkl : k < l.length := by
          have := Int.emod_lt_of_pos a (show (0 : Int) < l.length by omega)
          omega
        have hmod : a % (l.length : Int) = (k : Int) := hk.symm
        have htm : Int.tmod a (l.length : Int) = (k : Int) := by rw [hk]; exact Int.tmod_eq_emod_of_nonneg ha.1
        clear hk
        have hz1 : ((l.length : Int) == 0) = false := by rw [beq_eq_false_iff_ne]; omega
        have hz2 : (l.length == 0) = false := by rw [beq_eq_false_iff_ne]; omega
        have hz3 : ¬ (l.length : Int) = 0 := by omega
        have hz4 : ¬ l.length = 0 := by omega
        obtain ⟨m, hm⟩ : ∃ m, l.length = m + 1 := ⟨l.length - 1, by omega⟩
        have hml : m < l.length := by omega
        have hmi : (m : Int) < (l.length : Int) := by omega
        have hw : IntKind.i64.wrap ((l.length : Int) - 1) = (m : Int) := by rw [IntWalk.i64_in _ (by omega)]; omega
        have hl0 : (0 : Int) < (l.length : Int) := by omega
        obtain ⟨b, off, rfl, _, hcl⟩ := LA.out.ls hn
        obtain ⟨F, hF⟩ : ∃ F, (l[0]'hpos).2 = F := ⟨_, rfl⟩
        obtain ⟨L, hL⟩ : ∃ L, (l[m]'hml).2 = L := ⟨_, rfl⟩
        have CE : Hid (∀ W, LF W (some ⟨b, off, none⟩) c l → b < W.heap.size ∧ W.cell? ⟨b, off + 1, none⟩ = some (.int .i64 F) ∧ W.cell? ⟨b, off + m * 2 + 1, none⟩ = some (.int .i64 L)) := Lib.hid fun W h => by
          obtain ⟨b', off', e, hb, hcw⟩ := h.ls hn
          cases e
          have h0 := (hcw 0 hpos).2
          have h1 := (hcw m hml).2
          rw [hF] at h0
          rw [hL] at h1
          exact ⟨hb, by simpa using h0, h1⟩
        have hf : IncF l k (incO l) (incO (l.take (k + 1))) (incO (l.drop k)) F L (rstO l) (rstO (l.take (k + 1))) (rstO (l.drop k)) := by
          have h := inc_facts hc hkl
          have e : (l[l.length - 1]'(by omega)) = l[m]'hml := by congr 1; omega
          rw [hF, e, hL] at h
          exact h
        obtain ⟨D, hD⟩ : ∃ D, (if c = k then some (⟨b, off, none⟩ : Addr) else some ⟨b, off + k * 2, none⟩) = D := ⟨_, rfl⟩
        have hcap := LA.out.le
        have htl : (l.take (k + 1)).length = k + 1 := by rw [List.length_take]; omega
        have hdl : (l.drop k).length = l.length - k := List.length_drop
        have K2 : Hid (∀ W, LF W (some ⟨b, off, none⟩) c l → Calls Try.prog 17 #[.slice (some ⟨b, off, none⟩) l.length c] W fun e w' => e = .returned (.int .i64 (incO (l.take (k + 1)) + incO (l.drop k))) ∧ Below W.heap.size W w') := Lib.hid fun W h => by
          have := gInc (by omega) h
          rw [hf.n] at this
          exact this
        have K3 : Hid (∀ W, LF W (some ⟨b, off, none⟩) c l → Calls Try.prog 19 #[.slice (some ⟨b, off, none⟩) l.length c] W fun e w' => e = .returned (.int .i64 ((rstO (l.take (k + 1)) : Int) + (rstO (l.drop k) : Int))) ∧ Below W.heap.size W w') := Lib.hid fun W h => by
          have := gRst (by omega) h
          rw [hf.r, Int.natCast_add] at this
          exact this
        have G1 : Hid (∀ V, LF V (some ⟨b, off, none⟩) c l → ∀ dd os, Calls Try.prog 17 #[.slice (some ⟨b, off, none⟩) (k + 1) c] (grow (redrawn V dd) os) fun e w' => e = .returned (.int .i64 (incO (l.take (k + 1)))) ∧ Below (grow (redrawn V dd) os).heap.size (grow (redrawn V dd) os) w') := Lib.hid fun V h dd os => by
          have := gInc (by rw [htl]; omega) ((h.regrown dd os).take_ (k + 1))
          rw [htl] at this
          exact this
        have G2 : Hid (∀ V, LF V (some ⟨b, off, none⟩) c l → ∀ dd os, Calls Try.prog 17 #[.slice D (l.length - k) (c - k)] (grow (redrawn V dd) os) fun e w' => e = .returned (.int .i64 (incO (l.drop k))) ∧ Below (grow (redrawn V dd) os).heap.size (grow (redrawn V dd) os) w') := Lib.hid fun V h dd os => by
          have h2 := (h.regrown dd os).drop_ (k := k) (by omega)
          rw [hD] at h2
          have := gInc (by rw [hdl]; omega) h2
          rw [hdl] at this
          exact this
        have G3 : Hid (∀ V, LF V (some ⟨b, off, none⟩) c l → ∀ dd os, Calls Try.prog 19 #[.slice (some ⟨b, off, none⟩) (k + 1) c] (grow (redrawn V dd) os) fun e w' => e = .returned (.int .i64 (rstO (l.take (k + 1)) : Nat)) ∧ Below (grow (redrawn V dd) os).heap.size (grow (redrawn V dd) os) w') := Lib.hid fun V h dd os => by
          have := gRst (by rw [htl]; omega) ((h.regrown dd os).take_ (k + 1))
          rw [htl] at this
          exact this
        have G4 : Hid (∀ V, LF V (some ⟨b, off, none⟩) c l → ∀ dd os, Calls Try.prog 19 #[.slice D (l.length - k) (c - k)] (grow (redrawn V dd) os) fun e w' => e = .returned (.int .i64 (rstO (l.drop k) : Nat)) ∧ Below (grow (redrawn V dd) os).heap.size (grow (redrawn V dd) os) w') := Lib.hid fun V h dd os => by
          have h2 := (h.regrown dd os).drop_ (k := k) (by omega)
          rw [hD] at h2
          have := gRst (by rw [hdl]; omega) h2
          rw [hdl] at this
          exact this
        have hlow := hf.low
        have heq := hf.eq
        have hlt := hf.lt
        have hb1 := hf.b1
        have hb2 := hf.b2
        have hfi := hf.fi
        have hla := hf.la
        rw [hf.n] at hlow heq
        rw [hf.r] at heq hlt
        clear hf hF hL htl hdl hcl hc hn
        generalize incO (l.take (k + 1)) = I1 at *
        generalize incO (l.drop k) = I2 at *
        generalize rstO (l.take (k + 1)) = R1 at *
        generalize rstO (l.drop k) = R2 at *
        have hkc : k ≤ c := by omega
        have hkc1 : k + 1 ≤ c := by omega
        have hkl1 : k + 1 ≤ l.length := by omega
        have hkl2 : k ≤ l.length := by omega
        have hki0 : 0 ≤ (k : Int) + 1 := by omega
        have hki1 : (k : Int) + 1 ≤ (l.length : Int) := by omega
        have hki2 : (k : Int) ≤ (l.length : Int) := by omega
        have hki3 : (k : Int) + 1 ≤ (c : Int) := by omega
        have hw1 : IntKind.i64.wrap ((k : Int) + 1) = ((k + 1 : Nat) : Int) := by rw [IntWalk.i64_in _ (by omega)]; omega
        obtain ⟨hb1a, hb1b⟩ := hb1
        obtain ⟨hb2a, hb2b⟩ := hb2
        obtain ⟨hfa, hfb⟩ := hfi
        obtain ⟨hlaa, hlab⟩ := hla
        have hs0 : ¬ I1 + I2 < 0 := by omega
        have hs1 : ¬ I1 + I2 < L - F := by omega
        have hv1 : IntKind.i64.wrap (I1 + I2) = I1 + I2 := by rw [IntWalk.i64_in _ (by omega)]
        have hv2 : IntKind.i64.wrap ((R1 : Int) + (R2 : Int)) = (R1 : Int) + (R2 : Int) := by rw [IntWalk.i64_in _ (by omega)]
        have hv3 : IntKind.i64.wrap (L - F) = L - F := by rw [IntWalk.i64_in _ (by omega)]
        have hne1 : (I1 + I2 != I1 + I2) = false := by simp
        have hne2 : ((R1 : Int) + (R2 : Int) != (R1 : Int) + (R2 : Int)) = false := by simp
        have hr0 : 0 ≤ (R1 : Int) + (R2 : Int) := by omega
        have hr1 : (R1 : Int) + (R2 : Int) < (l.length : Int) := by omega
        have hr2 : (R1 : Int) + (R2 : Int) ≤ 24 := by omega
        have HEQ := Lib.hid heq
        clear heq hlow hm
        have mixed : Try.prog.follows .mixedOrders = true := by kernel_rfl
        go_enter Try.func8, Try.ntmps8
        go_wp2_with fail
        with_reducible refine (KG.out _ _ (by simp)).mono ?_
        rintro e w0_ ⟨rfl, rfl⟩
        go_wp2_with fail
        with_reducible refine (K1.out _ LA.out).mono ?_
        rintro e w1_ ⟨rfl, hb⟩
        have LA := Lib.hid (LA.out.up hb)
        have BB := Lib.hid (BB.out.trans (hb.mono BB.out.size))
        clear hb
        go_wp2_with fail
        with_reducible refine (K2.out _ LA.out).mono ?_
        rintro e w2_ ⟨rfl, hb⟩
        have LA := Lib.hid (LA.out.up hb)
        have BB := Lib.hid (BB.out.trans (hb.mono BB.out.size))
        clear hb
        go_wp2_with fail
        with_reducible refine (K3.out _ LA.out).mono ?_
        rintro e w3_ ⟨rfl, hb⟩
        have LA := Lib.hid (LA.out.up hb)
        have BB := Lib.hid (BB.out.trans (hb.mono BB.out.size))
        clear hb
        go_wp2_with fail
        obtain ⟨hbw, z1, z2⟩ := CE.out _ LA.out
        go_quiet (fail)
        clear hbw z1 z2
        have LA : Hid (LF (w3_.drewN nq) (some ⟨b, off, none⟩) c l) := Lib.hid (LA.out.up (below_drewN (Below.refl _ _) nq))
        have BB := Lib.hid (below_drewN BB.out nq)
        generalize w3_.drewN nq = V at *
        have Q1 := Lib.hid (G1.out V LA.out)
        have Q2 := Lib.hid (G2.out V LA.out)
        have Q3 := Lib.hid (G3.out V LA.out)
        have Q4 := Lib.hid (G4.out V LA.out)
        go_wp2_with fail
        refine wp_region_quiet_below (by assumption) (by kernel_rfl) ?_
        iterate 37 quiet_step (first | with_reducible exact Calls.regrown_of (Q1.out _ _) | with_reducible exact Calls.regrown_of (Q2.out _ _) | with_reducible exact Calls.regrown_of (Q3.out _ _) | with_reducible exact Calls.regrown_of (Q4.out _ _))
        refine wpQuiet_nil ?_
        intro _ hw'
        obtain ⟨⟨dq, osq⟩, hw''⟩ := hw'
        subst hw''
        have BB := Lib.hid (BB.out.trans ((below_regrown V dq osq).mono BB.out.size))
        generalize grow (redrawn V dq) osq = WZ at *
        clear Q1 Q2 Q3 Q4 G1 G2 G3 G4 K1 K2 K3
        by_cases hR : R1 + R2 = 0
        · have hq : I1 + I2 = L - F := HEQ.out hR
          have hqb : (I1 + I2 == L - F) = true := by simpa using hq
          have hR0 : ¬ (0 : Int) < (R1 : Int) + (R2 : Int) := by omega
          clear hR hq
          go_wp2_with fail
          with_reducible refine (KA.out _).mono ?_
          rintro e wz ⟨rfl, hb⟩
          have BB := Lib.hid (BB.out.trans (hb.mono BB.out.size))
          clear hb
          go_wp2
          go_ret
          exact ⟨rfl, BB.out⟩
        · have hR0 : (0 : Int) < (R1 : Int) + (R2 : Int) := by omega
          clear hR
          go_wp2_with fail
          with_reducible refine (KA.out _).mono ?_
          rintro e wz ⟨rfl, hb⟩
          have BB := Lib.hid (BB.out.trans (hb.mono BB.out.size))
          clear hb
          go_wp2
          go_ret
          exact ⟨rfl, BB.out⟩
    · have hcb : ((chk 2 l : Nat) : Int) ≠ 0 := by omega
      have hcq : (((chk 2 l : Nat) : Int) != 0) = true := by simpa using hc
      have hcq2 : (chk 2 l != 0) = true := by simpa using hc
      generalize chk 2 l = z at *
      clear hc
      go_enter Try.func8, Try.ntmps8
      go_wp2_with fail
      with_reducible refine (KG.out _ _ (by simp)).mono ?_
      rintro e w0_ ⟨rfl, rfl⟩
      go_wp2_with fail
      with_reducible refine (K1.out _ LA.out).mono ?_
      rintro e w1_ ⟨rfl, hb⟩
      have LA := Lib.hid (LA.out.up hb)
      have BB := Lib.hid (BB.out.trans (hb.mono BB.out.size))
      clear hb
      go_wp2_with fail
      with_reducible refine (KA.out _).mono ?_
      rintro e wz ⟨rfl, hb⟩
      have BB := Lib.hid (BB.out.trans (hb.mono BB.out.size))
      clear hb
      go_wp2
      go_ret
      exact ⟨rfl, BB.out⟩
end Go.Proofs.Ytobipbedkkmlcaa.Sr
