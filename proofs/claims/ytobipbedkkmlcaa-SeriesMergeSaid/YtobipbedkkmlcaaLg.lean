/- Layer 11: SeriesBetween. -/
import Derived.Test.YtobipbedkkmlcaaLf
set_option maxRecDepth 100000
set_option linter.unusedVariables false
set_option linter.unusedSimpArgs false
namespace Go.Proofs.Ytobipbedkkmlcaa.Sr
open Go.RowKit
open Go.Sort (grow)
theorem between_facts {l : List S} {p : Nat} (h : chk 2 l = 0) (hp : p + 2 < l.length) (h1 : (l[p]'(by omega)).2 ≤ (l[p + 1]'(by omega)).2) (h2 : (l[p + 1]'(by omega)).2 ≤ (l[p + 2]'hp).2) :
    incO (l.take (p + 1) ++ l.drop (p + 2)) = incO l ∧ rstO (l.take (p + 1) ++ l.drop (p + 2)) = rstO l := by
  have e1 : l.take (p + 1) ++ l.drop (p + 2) = l.take p ++ (l[p]'(by omega)) :: (l[p + 2]'hp) :: l.drop (p + 3) := by
    rw [take_snoc (by omega), List.drop_eq_getElem_cons hp, List.append_assoc]
    rfl
  have e2 : l = l.take p ++ (l[p]'(by omega)) :: (l[p + 1]'(by omega)) :: (l[p + 2]'hp) :: l.drop (p + 3) := by
    rw [← List.drop_eq_getElem_cons hp, ← List.drop_eq_getElem_cons (by omega), ← List.drop_eq_getElem_cons (by omega), List.take_append_drop]
  have h' := h
  rw [e2] at h'
  have := incO_between h' h1 h2
  rw [e1]
  rw [← e2] at this
  exact this
theorem concat_out {l1 l2 : List S} {A1 A2 : Option Addr} {c1 c2 n1 n2 : Nat} {V W : World} (e1 : l1.length = n1) (e2 : l2.length = n2) (h1 : l1.length ≤ 1000) (h2 : l2.length ≤ 1000) (hL1 : LF V A1 c1 l1) (hL2 : LF V A2 c2 l2) (hW : W = (V.alloc (.cells #[.slice A1 n1 c1, .slice A2 n2 c2] 22)).drew ∨ W = V.alloc (.cells #[.slice A1 n1 c1, .slice A2 n2 c2] 22)) :
    Calls Try.prog 30 #[.slice (some ⟨V.heap.size, 0, none⟩) 2 2] W (Out (l1 ++ l2) V) := by
  have hb : Below V.heap.size V W := by
    rcases hW with rfl | rfl
    · exact ((Below.refl _ _).alloc (Nat.le_refl _) _).drew
    · exact (Below.refl _ _).alloc (Nat.le_refl _) _
  have hg : V.heap.size < W.heap.size ∧ W.heap[V.heap.size]? = some (.cells #[.slice A1 n1 c1, .slice A2 n2 c2] 22 (0, 0)) := by
    rcases hW with rfl | rfl
    · exact ⟨by simp, heap_alloc_new V _⟩
    · exact ⟨by simp, heap_alloc_new V _⟩
  refine (concat_two l1 l2 (by omega) (by omega) A1 A2 c1 c2 n1 n2 e1 e2 V W V.heap.size hb hg.1 hg.2 (hL1.up hb).ls (hL2.up hb).ls).mono fun e w' ⟨v, he, ho, hb2⟩ => ?_
  obtain ⟨A, c, rfl, hl⟩ := ho.lf
  exact ⟨A, c, he, hl, hb2⟩
set_option maxHeartbeats 1000000 in
theorem between_walk (A : Option Addr) (c : Nat) (l : List S) (a : Int) (ha : 0 ≤ a ∧ a ≤ 255) (w : World) (hA : LF w A c l) :
    Calls Try.prog 9 #[.slice A l.length c, .int .u8 a] w fun e w' => e = .returned (.bool true) ∧ Below w.heap.size w w' := by
  have KA := Lib.hid awake_any
  have KG := Lib.hid (fun g w (h : g = w.heap.size) => great1_any A c l g w h)
  have B0 : Hid (∀ o1, Below w.heap.size w (w.alloc o1)) := Lib.hid fun o1 => (Below.refl _ _).alloc (Nat.le_refl _) _
  have BB := Lib.hid (B0.out (.cells #[.slice A l.length c] 22))
  cases hg : greatL l with
  | true =>
    rw [hg] at KG
    clear hA hg
    go_enter Try.func9, Try.ntmps9
    go_wp2_with fail
    with_reducible refine (KG.out _ _ (by simp)).mono ?_
    rintro e w0_ ⟨rfl, rfl⟩
    go_wp2_with fail
    with_reducible refine (KA.out _).mono ?_
    rintro e wz ⟨rfl, hb⟩
    have BB := Lib.hid (BB.out.trans (hb.mono BB.out.size))
    clear hb
    go_wp2
    go_ret
    exact ⟨rfl, BB.out⟩
  | false =>
    rw [hg] at KG
    have hl := not_great hg
    have LA := Lib.hid (hA.up BB.out)
    clear hA hg
    have K1 : Hid (∀ W, LF W A c l → Calls Try.prog 13 #[.int .i64 2, .slice A l.length c] W fun e w' => e = .returned (.int .i64 (chk 2 l : Nat)) ∧ Below W.heap.size W w') := Lib.hid fun W h => rCheck 2 (by omega) h
    by_cases hc : chk 2 l = 0
    · rw [hc] at K1
      by_cases hn : l.length < 3
      · have hn1 : (l.length : Int) < 3 := by omega
        go_enter Try.func9, Try.ntmps9
        go_wp2_with fail
        with_reducible refine (KG.out _ _ (by simp)).mono ?_
        rintro e w0_ ⟨rfl, rfl⟩
        go_wp2_with fail
        with_reducible refine (K1.out _ LA.out).mono ?_
        rintro e w1_ ⟨rfl, hb⟩
        have LA := Lib.hid (LA.out.up hb)
        have BB := Lib.hid (BB.out.trans (hb.mono BB.out.size))
        clear hb
        go_wp2_with fail
        with_reducible refine (KA.out _).mono ?_
        rintro e wz ⟨rfl, hb⟩
        have BB := Lib.hid (BB.out.trans (hb.mono BB.out.size))
        clear hb
        go_wp2
        go_ret
        exact ⟨rfl, BB.out⟩
      · have hn1 : ¬ (l.length : Int) < 3 := by omega
        obtain ⟨p, hk⟩ : ∃ p : Nat, (p : Int) = a % ((l.length : Int) - 2) := ⟨(a % ((l.length : Int) - 2)).toNat, Int.toNat_of_nonneg (Int.emod_nonneg _ (by omega))⟩
        have hp : p + 2 < l.length := by
          have := Int.emod_lt_of_pos a (show (0 : Int) < (l.length : Int) - 2 by omega)
          omega
        have hmod : a % ((l.length : Int) - 2) = (p : Int) := hk.symm
        have hz0 : IntKind.i64.wrap ((l.length : Int) - 2) = (l.length : Int) - 2 := by rw [IntWalk.i64_in _ (by omega)]
        have hz1 : ((l.length : Int) - 2 == 0) = false := by rw [beq_eq_false_iff_ne]; omega
        have hz3 : ¬ (l.length : Int) - 2 = 0 := by omega
        have hw0 : IntKind.i64.wrap (1 + (p : Int)) = ((p + 1 : Nat) : Int) := by rw [IntWalk.i64_in _ (by omega)]; omega
        have hw1 : IntKind.i64.wrap (p : Int) = (p : Int) := by rw [IntWalk.i64_in _ (by omega)]
        have hw2 : IntKind.i64.wrap ((p : Int) + 1 + 1) = ((p + 2 : Nat) : Int) := by rw [IntWalk.i64_in _ (by omega)]; omega
        have hw3 : IntKind.i64.wrap ((p : Int) + 1 - 1) = (p : Int) := by rw [IntWalk.i64_in _ (by omega)]; omega
        have hi0 : (p : Int) < l.length := by omega
        have hT : ((p : Int) + 2).toNat = p + 2 := by omega
        have hi1 : (p : Int) + 1 < l.length := by omega
        have hi2 : (p : Int) + 2 < l.length := by omega
        have hn0 : p < l.length := by omega
        have hn2 : p + 1 < l.length := by omega
        have hj1 : 0 ≤ (p : Int) + 1 := by omega
        have hj2 : 0 ≤ (p : Int) + 2 := by omega
        have hne : l ≠ [] := fun e => by rw [e] at hp; simp at hp
        obtain ⟨b, off, rfl, _, hcl⟩ := LA.out.ls hne
        obtain ⟨v0, hv0⟩ : ∃ v, (l[p]'hn0).2 = v := ⟨_, rfl⟩
        obtain ⟨v1, hv1⟩ : ∃ v, (l[p + 1]'hn2).2 = v := ⟨_, rfl⟩
        obtain ⟨v2, hv2⟩ : ∃ v, (l[p + 2]'hp).2 = v := ⟨_, rfl⟩
        have CE : Hid (∀ W, LF W (some ⟨b, off, none⟩) c l → b < W.heap.size ∧ W.cell? ⟨b, off + p * 2 + 1, none⟩ = some (.int .i64 v0) ∧ W.cell? ⟨b, off + (p + 1) * 2 + 1, none⟩ = some (.int .i64 v1) ∧ W.cell? ⟨b, off + (p + 2) * 2 + 1, none⟩ = some (.int .i64 v2)) := Lib.hid fun W h => by
          obtain ⟨b', off', e, hb, hcw⟩ := h.ls hne
          cases e
          have h0 := (hcw p hn0).2
          have h1 := (hcw (p + 1) hn2).2
          have h2 := (hcw (p + 2) hp).2
          rw [hv0] at h0
          rw [hv1] at h1
          rw [hv2] at h2
          exact ⟨hb, h0, h1, h2⟩
        have HF : Hid (v0 ≤ v1 → v1 ≤ v2 → incO (l.take (p + 1) ++ l.drop (p + 2)) = incO l ∧ rstO (l.take (p + 1) ++ l.drop (p + 2)) = rstO l) := Lib.hid fun h1 h2 => between_facts hc hp (by rw [hv0, hv1]; exact h1) (by rw [hv1, hv2]; exact h2)
        obtain ⟨ha1, ha2⟩ := ha
        have htm : Int.tmod a ((l.length : Int) - 2) = (p : Int) := by rw [hk]; exact Int.tmod_eq_emod_of_nonneg ha1
        clear hk hc hcl hv0 hv1 hv2 hne
        by_cases h01 : v1 < v0
        · have hd := decide_eq_true h01
          go_enter Try.func9, Try.ntmps9
          go_wp2_with fail
          with_reducible refine (KG.out _ _ (by simp)).mono ?_
          rintro e w0_ ⟨rfl, rfl⟩
          go_wp2_with fail
          with_reducible refine (K1.out _ LA.out).mono ?_
          rintro e w1_ ⟨rfl, hb⟩
          have LA := Lib.hid (LA.out.up hb)
          have BB := Lib.hid (BB.out.trans (hb.mono BB.out.size))
          clear hb
          go_wp2_with fail
          obtain ⟨hbw, z0, z1, z2⟩ := CE.out _ LA.out
          go_quiet (fail)
          clear hbw z0 z1 z2
          have LA : Hid (LF (w1_.drewN nq) (some ⟨b, off, none⟩) c l) := Lib.hid (LA.out.up (below_drewN (Below.refl _ _) nq))
          have BB := Lib.hid (below_drewN BB.out nq)
          generalize w1_.drewN nq = V at *
          go_wp2_with fail
          with_reducible refine (KA.out _).mono ?_
          rintro e wz ⟨rfl, hb⟩
          have BB := Lib.hid (BB.out.trans (hb.mono BB.out.size))
          clear hb
          go_wp2
          go_ret
          exact ⟨rfl, BB.out⟩
        · have hd := decide_eq_false h01
          by_cases h12 : v2 < v1
          · have hd2 := decide_eq_true h12
            go_enter Try.func9, Try.ntmps9
            go_wp2_with fail
            with_reducible refine (KG.out _ _ (by simp)).mono ?_
            rintro e w0_ ⟨rfl, rfl⟩
            go_wp2_with fail
            with_reducible refine (K1.out _ LA.out).mono ?_
            rintro e w1_ ⟨rfl, hb⟩
            have LA := Lib.hid (LA.out.up hb)
            have BB := Lib.hid (BB.out.trans (hb.mono BB.out.size))
            clear hb
            go_wp2_with fail
            obtain ⟨hbw, z0, z1, z2⟩ := CE.out _ LA.out
            go_quiet (fail)
            clear hbw z0 z1 z2
            have LA : Hid (LF (w1_.drewN nq) (some ⟨b, off, none⟩) c l) := Lib.hid (LA.out.up (below_drewN (Below.refl _ _) nq))
            have BB := Lib.hid (below_drewN BB.out nq)
            generalize w1_.drewN nq = V at *
            go_wp2_with fail
            with_reducible refine (KA.out _).mono ?_
            rintro e wz ⟨rfl, hb⟩
            have BB := Lib.hid (BB.out.trans (hb.mono BB.out.size))
            clear hb
            go_wp2
            go_ret
            exact ⟨rfl, BB.out⟩
          · have hd2 := decide_eq_false h12
            obtain ⟨hf1, hf2⟩ := HF.out (by omega) (by omega)
            obtain ⟨D, hD⟩ : ∃ D, (if c = p + 2 then some (⟨b, off, none⟩ : Addr) else some ⟨b, off + (p + 2) * 2, none⟩) = D := ⟨_, rfl⟩
            have hcap := LA.out.le
            have htl : (l.take (p + 1)).length = p + 1 := by rw [List.length_take]; omega
            have hdl : (l.drop (p + 2)).length = l.length - (p + 2) := List.length_drop
            have hll : (l.take (p + 1) ++ l.drop (p + 2)).length ≤ 1000 := by rw [List.length_append]; omega
            have K2 : Hid (∀ V W, LF V (some ⟨b, off, none⟩) c l → (W = (V.alloc (.cells #[.slice (some ⟨b, off, none⟩) (p + 1) c, .slice D (l.length - (p + 2)) (c - (p + 2))] 22)).drew ∨ W = V.alloc (.cells #[.slice (some ⟨b, off, none⟩) (p + 1) c, .slice D (l.length - (p + 2)) (c - (p + 2))] 22)) → Calls Try.prog 30 #[.slice (some ⟨V.heap.size, 0, none⟩) 2 2] W (Out (l.take (p + 1) ++ l.drop (p + 2)) V)) := Lib.hid fun V W h hW => by
              have h2 := h.drop_ (k := p + 2) (by omega)
              rw [hD] at h2
              exact concat_out htl hdl (by omega) (by omega) (h.take_ (p + 1)) h2 hW
            have K3 : Hid (∀ W B d, LF W B d (l.take (p + 1) ++ l.drop (p + 2)) → Calls Try.prog 17 #[.slice B (l.take (p + 1) ++ l.drop (p + 2)).length d] W fun e w' => e = .returned (.int .i64 (incO l)) ∧ Below W.heap.size W w') := Lib.hid fun W B d h => by
              have := gInc hll h
              rw [hf1] at this
              exact this
            have K4 : Hid (∀ W B d, LF W B d (l.take (p + 1) ++ l.drop (p + 2)) → Calls Try.prog 19 #[.slice B (l.take (p + 1) ++ l.drop (p + 2)).length d] W fun e w' => e = .returned (.int .i64 (rstO l : Nat)) ∧ Below W.heap.size W w') := Lib.hid fun W B d h => by
              have := gRst hll h
              rw [hf2] at this
              exact this
            have K5 : Hid (∀ W, LF W (some ⟨b, off, none⟩) c l → Calls Try.prog 17 #[.slice (some ⟨b, off, none⟩) l.length c] W fun e w' => e = .returned (.int .i64 (incO l)) ∧ Below W.heap.size W w') := Lib.hid fun W h => gInc (by omega) h
            have K6 : Hid (∀ W, LF W (some ⟨b, off, none⟩) c l → Calls Try.prog 19 #[.slice (some ⟨b, off, none⟩) l.length c] W fun e w' => e = .returned (.int .i64 (rstO l : Nat)) ∧ Below W.heap.size W w') := Lib.hid fun W h => gRst (by omega) h
            have heq : ∀ z : Int, (z == z) = true := fun z => by simp
            clear hf1 hf2 htl hdl hll HF h01 h12
            generalize incO l = N at *
            generalize rstO l = R at *
            generalize l.take (p + 1) ++ l.drop (p + 2) = less at *
            have hkc : p + 1 ≤ c := by omega
            have hkc1 : p + 2 ≤ c := by omega
            have hkl1 : p + 2 ≤ l.length := by omega
            have hkl2 : p + 1 ≤ l.length := by omega
            have hki1 : (p : Int) + 2 ≤ (l.length : Int) := by omega
            have hki3 : (p : Int) + 1 ≤ (c : Int) := by omega
            go_enter Try.func9, Try.ntmps9
            go_wp2_with fail
            with_reducible refine (KG.out _ _ (by simp)).mono ?_
            rintro e w0_ ⟨rfl, rfl⟩
            go_wp2_with fail
            with_reducible refine (K1.out _ LA.out).mono ?_
            rintro e w1_ ⟨rfl, hb⟩
            have LA := Lib.hid (LA.out.up hb)
            have BB := Lib.hid (BB.out.trans (hb.mono BB.out.size))
            clear hb
            go_wp2_with fail
            obtain ⟨hbw, z0, z1, z2⟩ := CE.out _ LA.out
            go_quiet (fail)
            clear hbw z0 z1 z2
            have LA : Hid (LF (w1_.drewN nq) (some ⟨b, off, none⟩) c l) := Lib.hid (LA.out.up (below_drewN (Below.refl _ _) nq))
            have BB := Lib.hid (below_drewN BB.out nq)
            generalize w1_.drewN nq = V at *
            go_wp2_with fail
            go_region_law (go_simp; go_at_call 30; (with_reducible refine (K2.out V _ LA.out (by first | exact .inl rfl | exact .inr rfl)).mono ?_); rintro e w3 ⟨Al, cl, rfl, hl3, hb⟩; have Ll := Lib.hid hl3; have LA := Lib.hid (LA.out.up hb); have BB := Lib.hid (BB.out.trans (hb.mono BB.out.size)); clear hl3 hb)
            all_goals
              go_wp2_with fail
              with_reducible refine (K3.out _ _ _ Ll.out).mono ?_
              rintro e w4_ ⟨rfl, hb⟩
              have LA := Lib.hid (LA.out.up hb)
              have Ll := Lib.hid (Ll.out.up hb)
              have BB := Lib.hid (BB.out.trans (hb.mono BB.out.size))
              clear hb
              go_wp2_with fail
              with_reducible refine (K5.out _ LA.out).mono ?_
              rintro e w5_ ⟨rfl, hb⟩
              have LA := Lib.hid (LA.out.up hb)
              have Ll := Lib.hid (Ll.out.up hb)
              have BB := Lib.hid (BB.out.trans (hb.mono BB.out.size))
              clear hb
              go_wp2_with fail
              with_reducible refine (K4.out _ _ _ Ll.out).mono ?_
              rintro e w6_ ⟨rfl, hb⟩
              have LA := Lib.hid (LA.out.up hb)
              have Ll := Lib.hid (Ll.out.up hb)
              have BB := Lib.hid (BB.out.trans (hb.mono BB.out.size))
              clear hb
              go_wp2_with fail
              with_reducible refine (K6.out _ LA.out).mono ?_
              rintro e w7_ ⟨rfl, hb⟩
              have LA := Lib.hid (LA.out.up hb)
              have Ll := Lib.hid (Ll.out.up hb)
              have BB := Lib.hid (BB.out.trans (hb.mono BB.out.size))
              clear hb
              go_wp2_with fail
              with_reducible refine (KA.out _).mono ?_
              rintro e wz ⟨rfl, hb⟩
              have BB := Lib.hid (BB.out.trans (hb.mono BB.out.size))
              clear hb
              go_wp2
              go_ret
              exact ⟨rfl, BB.out⟩
    · have hcb : ((chk 2 l : Nat) : Int) ≠ 0 := by omega
      have hcq : (((chk 2 l : Nat) : Int) != 0) = true := by simpa using hc
      have hcq2 : (chk 2 l != 0) = true := by simpa using hc
      generalize chk 2 l = z at *
      clear hc
      go_enter Try.func9, Try.ntmps9
      go_wp2_with fail
      with_reducible refine (KG.out _ _ (by simp)).mono ?_
      rintro e w0_ ⟨rfl, rfl⟩
      go_wp2_with fail
      with_reducible refine (K1.out _ LA.out).mono ?_
      rintro e w1_ ⟨rfl, hb⟩
      have LA := Lib.hid (LA.out.up hb)
      have BB := Lib.hid (BB.out.trans (hb.mono BB.out.size))
      clear hb
      go_wp2_with fail
      with_reducible refine (KA.out _).mono ?_
      rintro e wz ⟨rfl, hb⟩
      have BB := Lib.hid (BB.out.trans (hb.mono BB.out.size))
      clear hb
      go_wp2
      go_ret
      exact ⟨rfl, BB.out⟩
end Go.Proofs.Ytobipbedkkmlcaa.Sr
