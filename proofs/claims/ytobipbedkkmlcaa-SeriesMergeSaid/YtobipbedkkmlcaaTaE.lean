/- Layer 11: the program's Insert. -/
import Derived.Test.YtobipbedkkmlcaaTaD
import Derived.Test.YtobipbedkkmlcaaSrW
set_option linter.unusedVariables false
set_option linter.unusedSimpArgs false
namespace Go.Proofs.Ytobipbedkkmlcaa.Sr
open Go.RowKit
theorem eq_smp (a b c d : Int) (w : World) : (binOp .eql 33 (.agg #[.int .i64 a, .int .i64 b]) (.agg #[.int .i64 c, .int .i64 d])).run Try.prog w = .ok (.bool (a == c && b == d)) w := by
  have u3 := Try.underlying3
  have hS : Try.prog.underlying 33 = some (.struct (Try.prog.fieldsOf 33)) := by kernel_rfl
  have hp : Try.prog.stoodInHeld 33 = false := by kernel_rfl
  rw [run_eql_struct, show (10000 : Nat) = 9999 + 1 from rfl, run_equalIn_agg w 9999 33 _ _ hS hp]
  simp only [Program.fieldsOf, Try.underlying33]
  go_simp
  by_cases h1 : a = c <;> by_cases h2 : b = d <;> simp [h1, h2]
theorem chk_single (x : S) : decide (chk 1 [x] ≠ 0) = !okS x := by
  unfold chk chkF
  cases h : okS x <;> simp [chkF]
/-- What stands while Insert works: the sample in its box X, and in the row g of its own. -/
structure Kept (w W : World) (x : S) (X g : Nat) : Prop where
  below : Below w.heap.size w W
  x1 : W.cell? ⟨X, 0, none⟩ = some (.int .i64 x.1)
  x2 : W.cell? ⟨X, 1, none⟩ = some (.int .i64 x.2)
  o1 : W.cell? ⟨g, 0, none⟩ = some (.int .i64 x.1)
  o2 : W.cell? ⟨g, 1, none⟩ = some (.int .i64 x.2)
  xlt : X < W.heap.size
  glt : g < W.heap.size
theorem Kept.step {w W W' : World} {x : S} {X g : Nat} (h : Kept w W x X g) (hb : Below W.heap.size W W') : Kept w W' x X g :=
  ⟨h.below.trans (hb.mono h.below.size), (hb.cell h.xlt).trans h.x1, (hb.cell h.xlt).trans h.x2, (hb.cell h.glt).trans h.o1, (hb.cell h.glt).trans h.o2, Nat.lt_of_lt_of_le h.xlt hb.size, Nat.lt_of_lt_of_le h.glt hb.size⟩
theorem Kept.one {w W : World} {x : S} {X g : Nat} (h : Kept w W x X g) : LS W W.heap.size (some ⟨g, 0, none⟩) [x] := LS.of_reads h.glt fun j hj => by
  have : j = 0 := by simpa using hj
  subst this
  exact ⟨h.o1, h.o2⟩
theorem Kept.new {w w1 : World} {x : S} (hb : Below (w.alloc (.cells #[.int .i64 x.1, .int .i64 x.2] 33)).heap.size (w.alloc (.cells #[.int .i64 x.1, .int .i64 x.2] 33)) w1) : Kept w (w1.alloc (.cells #[.int .i64 x.1, .int .i64 x.2] 33)) x w.heap.size w1.heap.size := by
  have hs : w.heap.size < w1.heap.size := Nat.lt_of_lt_of_le (by simp) hb.size
  have b1 : Below w.heap.size w w1 := ((Below.refl _ w).alloc (Nat.le_refl _) _).trans (hb.mono (by simp))
  have g1 : (w.alloc (.cells #[.int .i64 x.1, .int .i64 x.2] 33)).cell? ⟨w.heap.size, 0, none⟩ = some (.int .i64 x.1) := by go_simp
  have g2 : (w.alloc (.cells #[.int .i64 x.1, .int .i64 x.2] 33)).cell? ⟨w.heap.size, 1, none⟩ = some (.int .i64 x.2) := by go_simp
  exact ⟨b1.alloc b1.size _, (World.cell?_alloc_lt w1 _ _ hs).trans ((hb.cell (p := ⟨w.heap.size, 0, none⟩) (by simp)).trans g1), (World.cell?_alloc_lt w1 _ _ hs).trans ((hb.cell (p := ⟨w.heap.size, 1, none⟩) (by simp)).trans g2), by go_simp, by go_simp, by simp; omega, by simp⟩
set_option maxHeartbeats 8000000 in
theorem pInsert_any (l : List S) (hl : l.length ≤ 100000) (A : Option Addr) (c : Nat) (hcap : l.length ≤ c) (hAf : (A = none ∧ c = 0) ∨ ∃ b off, A = some ⟨b, off, none⟩) (x : S) (w : World) (hA : LS w w.heap.size A l) :
    Calls Try.prog 21 #[.slice A l.length c, smpV x] w (OwnPost2 (insO l x) w) := by
  have B0 : Hid (Below w.heap.size w (w.alloc (.cells #[.int .i64 x.1, .int .i64 x.2] 33))) := (Below.refl _ _).alloc (Nat.le_refl _) _
  have hA1 : LS (w.alloc (.cells #[.int .i64 x.1, .int .i64 x.2] 33)) (w.alloc (.cells #[.int .i64 x.1, .int .i64 x.2] 33)).heap.size A l := (hA.below B0.out).more (by simp)
  have C := Lib.hid (invalid_any l hl A c _ hA1)
  have HA := Lib.hid hA
  clear hA hA1
  by_cases hc : chk 1 l ≠ 0
  · have HE := Lib.hid (insO_bad (x := x) hc)
    rw [decide_eq_true hc] at C
    clear hc
    go_enter Try.func21, Try.ntmps21
    go_wp2_with (go_at_call 39; (with_reducible refine C.out.mono ?_); rintro e w1 ⟨rfl, hb1⟩; have HB1 := Lib.hid (B0.out.trans (hb1.mono (by simp))); clear hb1)
    go_ret2
    rw [HE.out]
    exact none_out HB1.out 1
  rw [decide_eq_false hc] at C
  have hc : chk 1 l = 0 := by omega
  have PP : Hid (∀ W, Below w.heap.size w W → Calls Try.prog 40 #[.slice A l.length c, .int .i64 x.1] W fun e w' => e = .returned (.tuple #[.int .i64 (plc l x.1 : Nat), .bool (hit l x.1).isSome]) ∧ Below W.heap.size W w') := Lib.hid fun W hb => find_any l hl (chk_asc hc) x.1 A c W ((HA.out.below hb).more hb.size)
  have CO : Hid (∀ W X g, Kept w W x X g → Calls Try.prog 39 #[.slice (some ⟨g, 0, none⟩) 1 1] W fun e w' => e = .returned (.bool (!okS x)) ∧ Below W.heap.size W w') := Lib.hid fun W X g h => by
    have h1 := invalid_any [x] (by simp) _ 1 W h.one
    rw [chk_single] at h1
    exact h1
  by_cases hx : okS x = false
  · have HE := Lib.hid (insO_range hc hx)
    rw [hx] at CO
    dsimp only [Bool.not] at CO
    clear hc hx
    generalize plc l x.1 = k at *
    generalize (hit l x.1).isSome = fb at *
    go_enter Try.func21, Try.ntmps21
    go_wp2_with (first | (go_at_call 40; (with_reducible refine (PP.out _ K1.out.below).mono ?_); rintro e w2 ⟨rfl, hb2⟩; have K2 := Lib.hid (K1.out.step hb2); clear hb2) | (go_at_call 39; (with_reducible refine C.out.mono ?_); rintro e w1 ⟨rfl, hb1⟩; have K1 := Lib.hid (Kept.new hb1); have hb1x := (hb1.cell (p := ⟨w.heap.size, 0, none⟩) (by simp)).trans (show _ = some (Value.int .i64 x.1) by go_simp); have hb1y := (hb1.cell (p := ⟨w.heap.size, 1, none⟩) (by simp)).trans (show _ = some (Value.int .i64 x.2) by go_simp); have hb1z := Nat.lt_of_lt_of_le (show w.heap.size < (w.alloc (.cells #[.int .i64 x.1, .int .i64 x.2] 33)).heap.size by simp) hb1.size; clear hb1) | (go_at_call 39; (with_reducible refine (CO.out _ _ _ K2.out).mono ?_); rintro e w3 ⟨rfl, hb3⟩; have K3 := Lib.hid (K2.out.step hb3); clear hb3))
    go_ret2
    rw [HE.out]
    exact none_out K3.out.below 2
  have hx : okS x = true := by simpa using hx
  rw [hx] at CO
  dsimp only [Bool.not] at CO
  have hpl := plc_le l x.1
  cases hh : hit l x.1 with
  | some v =>
    obtain ⟨k, hkk⟩ : ∃ k, plc l x.1 = k := ⟨_, rfl⟩
    have hlt : k < l.length := by
      rcases Nat.lt_or_ge (plc l x.1) l.length with h | h
      · omega
      · rw [hit_end (by omega)] at hh; cases hh
    have ht : l[k].1 = x.1 := by
      rcases Decidable.em (l[k].1 = x.1) with h | h
      · exact h
      · rw [hit_not hkk hlt h] at hh; cases hh
    have hv : l[k].2 = v := by
      have h := hit_at hkk hlt ht
      rw [hh] at h
      cases h
      rfl
    rw [hh, hkk] at PP
    dsimp only [Option.isSome] at PP
    obtain ⟨b, off, rfl, hb, h1', h2'⟩ := HA.out.at_ hlt
    rw [ht] at h1'
    rw [hv] at h2'
    have HC : Hid (∀ w1, Below w.heap.size w w1 → w1.cell? ⟨b, off + k * 2, none⟩ = some (.int .i64 x.1) ∧ w1.cell? ⟨b, off + k * 2 + 1, none⟩ = some (.int .i64 v)) := fun w1 h => ⟨(h.cell (p := ⟨b, off + k * 2, none⟩) hb).trans h1', (h.cell (p := ⟨b, off + k * 2 + 1, none⟩) hb).trans h2'⟩
    have hki : (k : Int) < (l.length : Int) := by omega
    clear h1' h2' hkk ht hv
    have hne := fun w => eq_smp x.1 v x.1 x.2 w
    by_cases hq : v = x.2
    · have HE := Lib.hid (insO_same hc hx hh hq)
      subst hq
      simp only [beq_self_eq_true, Bool.and_self] at hne
      clear hc hx hh
      go_enter Try.func21, Try.ntmps21
      go_wp2_with (first | (go_at_call 40; (with_reducible refine (PP.out _ K1.out.below).mono ?_); rintro e w2 ⟨rfl, hb2⟩; have K2 := Lib.hid (K1.out.step hb2); clear hb2) | (go_at_call 39; (with_reducible refine C.out.mono ?_); rintro e w1 ⟨rfl, hb1⟩; have K1 := Lib.hid (Kept.new hb1); have hb1x := (hb1.cell (p := ⟨w.heap.size, 0, none⟩) (by simp)).trans (show _ = some (Value.int .i64 x.1) by go_simp); have hb1y := (hb1.cell (p := ⟨w.heap.size, 1, none⟩) (by simp)).trans (show _ = some (Value.int .i64 x.2) by go_simp); have hb1z := Nat.lt_of_lt_of_le (show w.heap.size < (w.alloc (.cells #[.int .i64 x.1, .int .i64 x.2] 33)).heap.size by simp) hb1.size; clear hb1) | (go_at_call 39; (with_reducible refine (CO.out _ _ _ K2.out).mono ?_); rintro e w3 ⟨rfl, hb3⟩; have K3 := Lib.hid (K2.out.step hb3); clear hb3))
      obtain ⟨k1, k2⟩ := HC.out _ K3.out.below
      have hbw := Nat.lt_of_lt_of_le hb K3.out.below.size
      have x1 := K3.out.x1
      have x2 := K3.out.x2
      have hxl := K3.out.xlt
      go_quiet (fail)
      go_wp2
      go_ret2
      rw [HE.out]
      exact none_out (below_drewN K3.out.below _) 6
    · have HE := Lib.hid (insO_clash hc hx hh hq)
      have hvb : (v == x.2) = false := by simpa using hq
      simp only [beq_self_eq_true, hvb, Bool.true_and] at hne
      clear hc hx hh hq
      go_enter Try.func21, Try.ntmps21
      go_wp2_with (first | (go_at_call 40; (with_reducible refine (PP.out _ K1.out.below).mono ?_); rintro e w2 ⟨rfl, hb2⟩; have K2 := Lib.hid (K1.out.step hb2); clear hb2) | (go_at_call 39; (with_reducible refine C.out.mono ?_); rintro e w1 ⟨rfl, hb1⟩; have K1 := Lib.hid (Kept.new hb1); have hb1x := (hb1.cell (p := ⟨w.heap.size, 0, none⟩) (by simp)).trans (show _ = some (Value.int .i64 x.1) by go_simp); have hb1y := (hb1.cell (p := ⟨w.heap.size, 1, none⟩) (by simp)).trans (show _ = some (Value.int .i64 x.2) by go_simp); have hb1z := Nat.lt_of_lt_of_le (show w.heap.size < (w.alloc (.cells #[.int .i64 x.1, .int .i64 x.2] 33)).heap.size by simp) hb1.size; clear hb1) | (go_at_call 39; (with_reducible refine (CO.out _ _ _ K2.out).mono ?_); rintro e w3 ⟨rfl, hb3⟩; have K3 := Lib.hid (K2.out.step hb3); clear hb3))
      obtain ⟨k1, k2⟩ := HC.out _ K3.out.below
      have hbw := Nat.lt_of_lt_of_le hb K3.out.below.size
      have x1 := K3.out.x1
      have x2 := K3.out.x2
      have hxl := K3.out.xlt
      go_quiet (fail)
      go_wp2
      go_ret2
      rw [HE.out]
      exact none_out (below_drewN K3.out.below _) 16
  | none =>
    rw [hh] at PP
    dsimp only [Option.isSome] at PP
    by_cases h2000 : l.length = 2000
    · have HE := Lib.hid (insO_full hc hx hh (by omega))
      have hbig : ((l.length : Int) == 2000) = true := by rw [beq_iff_eq]; omega
      have hbig2 : (l.length == 2000) = true := by rw [beq_iff_eq]; omega
      clear hc hx hh h2000
      generalize plc l x.1 = k at *
      go_enter Try.func21, Try.ntmps21
      go_wp2_with (first | (go_at_call 40; (with_reducible refine (PP.out _ K1.out.below).mono ?_); rintro e w2 ⟨rfl, hb2⟩; have K2 := Lib.hid (K1.out.step hb2); clear hb2) | (go_at_call 39; (with_reducible refine C.out.mono ?_); rintro e w1 ⟨rfl, hb1⟩; have K1 := Lib.hid (Kept.new hb1); have hb1x := (hb1.cell (p := ⟨w.heap.size, 0, none⟩) (by simp)).trans (show _ = some (Value.int .i64 x.1) by go_simp); have hb1y := (hb1.cell (p := ⟨w.heap.size, 1, none⟩) (by simp)).trans (show _ = some (Value.int .i64 x.2) by go_simp); have hb1z := Nat.lt_of_lt_of_le (show w.heap.size < (w.alloc (.cells #[.int .i64 x.1, .int .i64 x.2] 33)).heap.size by simp) hb1.size; clear hb1) | (go_at_call 39; (with_reducible refine (CO.out _ _ _ K2.out).mono ?_); rintro e w3 ⟨rfl, hb3⟩; have K3 := Lib.hid (K2.out.step hb3); clear hb3))
      go_quiet (fail)
      go_wp2
      go_ret2
      rw [HE.out]
      exact none_out (below_drewN K3.out.below _) 4
    · have h4 : l.length < 2000 := by have := chk_len hc; omega
      have HE := Lib.hid (insO_ok hc hx hh h4)
      have hbig : ((l.length : Int) == 2000) = false := by rw [beq_eq_false_iff_ne]; omega
      have hbig2 : (l.length == 2000) = false := by rw [beq_eq_false_iff_ne]; omega
      have HI : Hid (insL l x = l.take (plc l x.1) ++ ([x] ++ l.drop (plc l x.1))) := Lib.hid rfl
      rw [HI.out] at HE
      clear hc hx hh HI h2000
      generalize plc l x.1 = k at *
      obtain ⟨D, hD, hDn, LD⟩ : ∃ D, (∀ ad, A = some ad → (if c = k then some ad else some (⟨ad.block, ad.off + k * 2, none⟩ : Addr)) = D) ∧ (A = none → D = none) ∧ LS w w.heap.size D (l.drop k) := by
        rcases hAf with ⟨rfl, rfl⟩ | ⟨b, off, rfl⟩
        · obtain rfl : l = [] := List.eq_nil_of_length_eq_zero (by omega)
          exact ⟨none, (fun ad h => by cases h), (fun _ => rfl), (by simp; exact LS.nil _ _ _)⟩
        · exact ⟨_, (fun ad h => by cases h; rfl), (fun h => by cases h), HA.out.drop_ hcap⟩
      have CC : Hid (∀ w1 W X g m, Kept w w1 x X g → (W = (w1.drewN m).alloc (.cells #[.slice A k c, .slice (some ⟨g, 0, none⟩) 1 1, .slice D (l.length - k) (c - k)] 22) ∨ W = ((w1.drewN m).alloc (.cells #[.slice A k c, .slice (some ⟨g, 0, none⟩) 1 1, .slice D (l.length - k) (c - k)] 22)).drew) → Calls Try.prog 30 #[.slice (some ⟨w1.heap.size, 0, none⟩) 3 3] W fun e w' => ∃ v, e = .returned v ∧ OwnS w' w.heap.size v (l.take k ++ ([x] ++ l.drop k)) ∧ Below w.heap.size w w') := Lib.hid fun w1 W X g m hK hW => by
        have B1 : Below w1.heap.size w1 W := by
          rcases hW with hW | hW
          · rw [hW]; exact (below_drewN (Below.refl _ w1) m).alloc (Nat.le_refl _) _
          · rw [hW]; exact ((below_drewN (Below.refl _ w1) m).alloc (Nat.le_refl _) _).drew
        have B2 : Below w.heap.size w W := hK.below.trans (B1.mono hK.below.size)
        have hr : w1.heap.size < W.heap.size ∧ W.heap[w1.heap.size]? = some (.cells #[.slice A k c, .slice (some ⟨g, 0, none⟩) 1 1, .slice D (l.length - k) (c - k)] 22 (0, 0)) := by
          rcases hW with hW | hW
          · rw [hW]; exact ⟨by simp, heap_alloc_new (w1.drewN m) _⟩
          · rw [hW]; exact ⟨by simp, heap_alloc_new (w1.drewN m) _⟩
        exact concat_three (l.take k) [x] (l.drop k) (by simp; omega) (by simp) (by simp; omega) A (some ⟨g, 0, none⟩) D c 1 (c - k) k 1 (l.length - k) (by simp; omega) rfl (by simp) w W _ B2 hr.1 hr.2 (((HA.out.take_ k).below B2).more B2.size) (hK.step B1).one ((LD.below B2).more B2.size)
      have hkc : k ≤ c := by omega
      have hki0 : 0 ≤ (k : Int) := by omega
      have hki1 : (k : Int) ≤ (l.length : Int) := by omega
      have hki2 : (k : Int) ≤ (c : Int) := by omega
      clear LD
      rcases hAf with ⟨rfl, rfl⟩ | ⟨b, off, rfl⟩
      · obtain rfl : k = 0 := by omega
        obtain rfl : l = [] := List.eq_nil_of_length_eq_zero (by omega)
        obtain rfl := hDn rfl
        clear hD hDn
        have HE0 : Hid (insO [] x = ([x], 0)) := HE.out
        simp only [List.length_nil, List.take_nil, List.drop_nil, List.append_nil, List.nil_append, Nat.sub_zero] at C PP CC ⊢
        go_enter Try.func21, Try.ntmps21
        go_wp2_with (first | (go_at_call 40; (with_reducible refine (PP.out _ K1.out.below).mono ?_); rintro e w2 ⟨rfl, hb2⟩; have K2 := Lib.hid (K1.out.step hb2); clear hb2) | (go_at_call 39; (with_reducible refine C.out.mono ?_); rintro e w1 ⟨rfl, hb1⟩; have K1 := Lib.hid (Kept.new hb1); have hb1x := (hb1.cell (p := ⟨w.heap.size, 0, none⟩) (by simp)).trans (show _ = some (Value.int .i64 x.1) by go_simp); have hb1y := (hb1.cell (p := ⟨w.heap.size, 1, none⟩) (by simp)).trans (show _ = some (Value.int .i64 x.2) by go_simp); have hb1z := Nat.lt_of_lt_of_le (show w.heap.size < (w.alloc (.cells #[.int .i64 x.1, .int .i64 x.2] 33)).heap.size by simp) hb1.size; clear hb1) | (go_at_call 39; (with_reducible refine (CO.out _ _ _ K2.out).mono ?_); rintro e w3 ⟨rfl, hb3⟩; have K3 := Lib.hid (K2.out.step hb3); clear hb3))
        go_quiet (fail)
        go_wp2
        go_region_law (go_simp; go_at_call 30; (with_reducible refine (CC.out w3 _ _ _ _ K3.out (by first | exact .inl rfl | exact .inr rfl)).mono ?_); rintro e w4 ⟨v4, rfl, ho4, hb4⟩; have HO4 := Lib.hid ho4; have HB4 := Lib.hid hb4; clear ho4 hb4)
        all_goals
          go_wp2
          go_ret2
          rw [HE0.out]
          exact ⟨_, rfl, HO4.out, HB4.out⟩
      · have hD := hD _ rfl
        dsimp only at hD
        go_enter Try.func21, Try.ntmps21
        go_wp2_with (first | (go_at_call 40; (with_reducible refine (PP.out _ K1.out.below).mono ?_); rintro e w2 ⟨rfl, hb2⟩; have K2 := Lib.hid (K1.out.step hb2); clear hb2) | (go_at_call 39; (with_reducible refine C.out.mono ?_); rintro e w1 ⟨rfl, hb1⟩; have K1 := Lib.hid (Kept.new hb1); have hb1x := (hb1.cell (p := ⟨w.heap.size, 0, none⟩) (by simp)).trans (show _ = some (Value.int .i64 x.1) by go_simp); have hb1y := (hb1.cell (p := ⟨w.heap.size, 1, none⟩) (by simp)).trans (show _ = some (Value.int .i64 x.2) by go_simp); have hb1z := Nat.lt_of_lt_of_le (show w.heap.size < (w.alloc (.cells #[.int .i64 x.1, .int .i64 x.2] 33)).heap.size by simp) hb1.size; clear hb1) | (go_at_call 39; (with_reducible refine (CO.out _ _ _ K2.out).mono ?_); rintro e w3 ⟨rfl, hb3⟩; have K3 := Lib.hid (K2.out.step hb3); clear hb3))
        go_quiet (fail)
        go_wp2
        go_region_law (go_simp; go_at_call 30; (with_reducible refine (CC.out w3 _ _ _ _ K3.out (by first | exact .inl rfl | exact .inr rfl)).mono ?_); rintro e w4 ⟨v4, rfl, ho4, hb4⟩; have HO4 := Lib.hid ho4; have HB4 := Lib.hid hb4; clear ho4 hb4)
        all_goals
          go_wp2
          go_ret2
          rw [HE.out]
          exact ⟨_, rfl, HO4.out, HB4.out⟩
end Go.Proofs.Ytobipbedkkmlcaa.Sr
