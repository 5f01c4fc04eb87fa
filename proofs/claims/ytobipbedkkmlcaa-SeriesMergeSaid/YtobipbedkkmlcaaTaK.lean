/- Layer 11: the program's Merge: sorting, compacting; what comes of it. -/
import Derived.Test.YtobipbedkkmlcaaTaJ
import Derived.Test.YtobipbedkkmlcaaTaH
set_option maxRecDepth 100000
set_option linter.unusedVariables false
set_option linter.unusedSimpArgs false
namespace Go.Proofs.Ytobipbedkkmlcaa.Sr
open Go.RowKit
open Go.Sort (grow)
theorem OwnS.cases {w : World} {B : Nat} {v : Value} {l : List S} (h : OwnS w B v l) : (v = .slice none 0 0 ∧ l = []) ∨ ∃ g cap, v = .slice (some ⟨g, 0, none⟩) l.length cap ∧ B ≤ g ∧ RowB w g cap l := by
  rcases id h.2 with ⟨rfl, h0⟩ | ⟨g, cap, cur, rfl, hr⟩
  · exact .inl ⟨rfl, List.length_eq_zero_iff.1 h0⟩
  · exact .inr ⟨g, cap, rfl, (RowB.of_own h).1, (RowB.of_own h).2.2⟩
theorem grown_same (w : World) (row : Option Nat) : w.grownBy w row := ⟨rfl, rfl, rfl, Nat.le_refl _, fun _ _ _ => rfl⟩
/-- A row is sorted; a row is compacted. -/
def SrtO (v : Value) (B : Nat) (l : List S) (w : World) (e : Ending) (w' : World) : Prop := e = .returned (.tuple #[]) ∧ ∃ r, SortedS l r ∧ r.length = l.length ∧ Hid (OwnS w' B v r) ∧ Hid (w.grownBy w' v.ownBlock)
def RowO (v : Value) (B : Nat) (r : List S) (w : World) (e : Ending) (w' : World) : Prop := ∃ v', e = .returned v' ∧ v'.ownBlock = v.ownBlock ∧ Hid (OwnS w' B v' r) ∧ Hid (w.grownBy w' v.ownBlock)
theorem sort_own (l : List S) (hl : l.length ≤ 1000000) (v : Value) (B : Nat) (w : World) (hO : OwnS w B v l) :
    Calls Try.prog 42 #[v, .func (.func 43) #[] #[]] w (SrtO v B l w) := by
  rcases hO.cases with ⟨rfl, rfl⟩ | ⟨g, cap, rfl, hB, hR⟩
  · refine (AnyF.slices_SortFunc_none { Try.sortS with } none 0 _ w).mono ?_
    rintro e w' ⟨rfl, rfl⟩
    exact ⟨rfl, [], ⟨List.Perm.refl _, List.Pairwise.nil⟩, rfl, World.ownsRow_nil _ _ _ _, grown_same _ _⟩
  · refine (sort_any l hl g cap w hR).mono ?_
    rintro e w' ⟨rfl, r, hs, h1, h2⟩
    have hlen : r.length = l.length := hs.1.length_eq
    refine ⟨rfl, r, hs, hlen, ?_, h2.out⟩
    have h := h1.out.own hB
    rw [hlen] at h
    exact h
theorem compact_own (l : List S) (hl : l.length ≤ 1000000) (v : Value) (B : Nat) (w : World) (hO : OwnS w B v l) :
    Calls Try.prog 45 #[v] w (RowO v B (cmpc l) w) := by
  rcases hO.cases with ⟨rfl, rfl⟩ | ⟨g, cap, rfl, hB, hR⟩
  · have e1 : decide ((0 : Int) < 2) = true := rfl
    go_enter Try.func45, Try.ntmps45
    go_wp2
    go_ret
    exact ⟨_, rfl, rfl, World.ownsRow_nil _ _ _ _, grown_same _ _⟩
  · refine (compact_any l hl g cap w hR).mono ?_
    rintro e w' ⟨rfl, h1, h2⟩
    exact ⟨_, rfl, rfl, h1.out.own hB, h2.out⟩
theorem cmpc_sub : ∀ l : List S, (cmpc l).Sublist l
  | [] => List.Sublist.refl _
  | [x] => List.Sublist.refl _
  | x :: y :: r => by
    rw [cmpc]
    split
    · exact (cmpc_sub (y :: r)).trans (List.sublist_cons_self _ _)
    · exact (cmpc_sub (y :: r)).cons_cons x
theorem cmpc_head : ∀ (y : S) (r : List S), ∃ t, cmpc (y :: r) = y :: t
  | y, [] => ⟨[], rfl⟩
  | y, z :: r => by
    rw [cmpc]
    split
    · rename_i e
      subst e
      exact cmpc_head y r
    · exact ⟨_, rfl⟩
theorem cmpc_adj : ∀ l : List S, ∀ p ∈ nbs (cmpc l), p.1 ≠ p.2
  | [] => fun p hp => by simp [cmpc, nbs] at hp
  | [x] => fun p hp => by simp [cmpc, nbs] at hp
  | x :: y :: r => fun p hp => by
    have ih := cmpc_adj (y :: r)
    rw [cmpc] at hp
    split at hp
    · exact ih p hp
    · rename_i hne
      obtain ⟨t, ht⟩ := cmpc_head y r
      rw [ht] at hp ih
      rw [nbs_cons] at hp
      rcases List.mem_cons.1 hp with e | h
      · rw [e]; exact hne
      · exact ih p h
theorem asc_of : ∀ {c : List S}, c.Pairwise (fun x y => x.1 ≤ y.1) → (∀ p ∈ nbs c, p.1.1 ≠ p.2.1) → Asc c
  | [], _, _ => List.Pairwise.nil
  | [x], _, _ => List.pairwise_singleton _ _
  | x :: y :: r, h, hn => by
    rw [nbs_cons] at hn
    have h' := List.pairwise_cons.1 h
    have ih : Asc (y :: r) := asc_of h'.2 fun p hp => hn p (List.mem_cons_of_mem _ hp)
    refine asc_cons.2 ⟨fun z hz => ?_, ih⟩
    have h1 := h'.1 y (List.mem_cons_self ..)
    have h2 : x.1 ≠ y.1 := hn (x, y) (List.mem_cons_self ..)
    rcases List.mem_cons.1 hz with e | hz
    · rw [e]; omega
    · have := (asc_cons.1 ih).1 z hz
      omega
/-- No two neighbours of one time: the merged list; else there is none. -/
theorem merged_ok {a b s : List S} (ha : Asc a) (hb : Asc b) (hs : SortedS (a ++ b) s) (h : ∀ p ∈ nbs (cmpc s), p.1.1 ≠ p.2.1) : mrg a b = some (cmpc s) := by
  refine mrg_is ha hb (asc_of (hs.2.sublist (cmpc_sub s)) h) fun z => ?_
  rw [mem_cmpc, hs.1.mem_iff, List.mem_append]
theorem merged_no {a b s : List S} (ha : Asc a) (hb : Asc b) (hs : SortedS (a ++ b) s) {p : S × S} (hp : p ∈ nbs (cmpc s)) (ht : p.1.1 = p.2.1) : mrg a b = none := by
  have hne := cmpc_adj s p hp
  have h1 := List.of_mem_zip (show (p.1, p.2) ∈ (cmpc s).zip (cmpc s).tail from hp)
  have m1 : p.1 ∈ a ∨ p.1 ∈ b := by
    have := (mem_cmpc s).1 h1.1
    rwa [hs.1.mem_iff, List.mem_append] at this
  have m2 : p.2 ∈ a ∨ p.2 ∈ b := by
    have := (mem_cmpc s).1 (List.mem_of_mem_tail h1.2)
    rwa [hs.1.mem_iff, List.mem_append] at this
  rw [mrg_none ha hb]
  rcases m1 with m1 | m1 <;> rcases m2 with m2 | m2
  · exact absurd (asc_one ha m1 m2 ht) hne
  · exact ⟨p.1, m1, p.2, m2, ht, hne⟩
  · exact ⟨p.2, m2, p.1, m1, ht.symm, fun e => hne e.symm⟩
  · exact absurd (asc_one hb m1 m2 ht) hne
theorem mrgO_bad {a b : List S} (h : chk 1 a ≠ 0 ∨ chk 1 b ≠ 0) : mrgO a b = ([], 1) := if_pos h
theorem mrgO_long {a b r : List S} (ha : chk 1 a = 0) (hb : chk 1 b = 0) (h : mrg a b = some r) (hn : 2000 < r.length) : mrgO a b = ([], 4) := by
  unfold mrgO
  rw [if_neg (by omega), h]
  simp only
  rw [if_pos hn]
/-- What Merge hands back lies in two cells. -/
theorem two_cells {X Y : Nat} {v u : Value} {W : World} {t1 t2 : TypeId} (h1 : Boxed W X t1 v) (h2 : Boxed W Y t2 u) (hne : X ≠ Y) (v' u' : Value) : Boxed ((W.setCell ⟨X, 0, none⟩ v').setCell ⟨Y, 0, none⟩ u') X t1 v' ∧ Boxed ((W.setCell ⟨X, 0, none⟩ v').setCell ⟨Y, 0, none⟩ u') Y t2 u' :=
  ⟨(h1.set v').other hne _, (h2.other (Ne.symm hne) _).set u'⟩
set_option maxHeartbeats 2000000 in
theorem pMerge_bad (a b : List S) (hl : a.length ≤ 100000) (hl2 : b.length ≤ 100000) (A1 A2 : Option Addr) (c1 c2 : Nat) (w : World) (hA : LS w w.heap.size A1 a) (hB : LS w w.heap.size A2 b) (h : chk 1 a ≠ 0 ∨ chk 1 b ≠ 0) :
    Calls Try.prog 25 #[.slice A1 a.length c1, .slice A2 b.length c2] w (OwnPost2 (mrgO a b) w) := by
  have HE := Lib.hid (mrgO_bad h)
  obtain ⟨W0, hW0⟩ : ∃ W0, W0 = (w.alloc (.cells #[.slice none 0 0] 22)).alloc (.cells #[.int .i64 0] 26) := ⟨_, rfl⟩
  have B0 : Below w.heap.size w W0 := by rw [hW0]; exact ((Below.refl _ w).alloc (Nat.le_refl _) _).alloc (by simp) _
  have k4 : Boxed W0 w.heap.size 22 (.slice none 0 0) := by rw [hW0]; exact (Boxed.new w _ _).alloc _
  have k5 : Boxed W0 (w.heap.size + 1) 26 (.int .i64 0) := by
    rw [hW0]
    have h := Boxed.new (w.alloc (.cells #[.slice none 0 0] 22)) 26 (.int .i64 0)
    simpa only [World.size_alloc] using h
  have C1 := Lib.hid (invalid_any a hl A1 c1 W0 ((hA.below B0).more B0.size))
  have C2 : Hid (∀ W, Below w.heap.size w W → Calls Try.prog 39 #[.slice A2 b.length c2] W fun e w' => e = .returned (.bool (decide (chk 1 b ≠ 0))) ∧ Below W.heap.size W w') := Lib.hid fun W hb => invalid_any b hl2 A2 c2 W ((hB.below hb).more hb.size)
  have HB0 := Lib.hid B0
  have K4 := Lib.hid k4
  have K5 := Lib.hid k5
  clear hA hB k4 k5 B0
  by_cases h1 : chk 1 a ≠ 0
  · rw [decide_eq_true h1] at C1
    clear h1 h C2
    go_enter Try.func25, Try.ntmps25
    rw [hW0] at C1 HB0 K4 K5
    go_wp2_with (go_at_call 39; (with_reducible refine C1.out.mono ?_); rintro e w1 ⟨rfl, hb1⟩; have k4 := boxed_below K4.out hb1; have k5 := boxed_below K5.out hb1; have z4 := k4.cell; have f4 := k4.frozen; have z5 := k5.cell; have f5 := k5.frozen; have K6 := Lib.hid k4; have K7 := Lib.hid k5; have HB1 := Lib.hid (HB0.out.trans (hb1.mono HB0.out.size)); clear hb1 k4 k5)
    obtain ⟨r4, r5⟩ := two_cells K6.out K7.out (by omega) (.slice none 0 0) (.int .i64 1)
    have y4 := r4.cell
    have y5 := r5.cell
    refine bodyPost_ret (v := .tuple #[.slice none 0 0, .int .i64 1]) (by simp [results, Try.f25, go_sem, y4, y5]) rfl ?_
    rw [HE.out]
    exact none_out ((HB1.out.setCell (p := ⟨w.heap.size, 0, none⟩) (Nat.le_refl _) _).setCell (p := ⟨w.heap.size + 1, 0, none⟩) (Nat.le_succ _) _) 1
  · rw [decide_eq_false h1] at C1
    have h2 : chk 1 b ≠ 0 := h.resolve_left h1
    rw [decide_eq_true h2] at C2
    clear h1 h2 h
    go_enter Try.func25, Try.ntmps25
    rw [hW0] at C1 HB0 K4 K5
    go_wp2_with (first | (go_at_call 39; (with_reducible refine C1.out.mono ?_); rintro e w1 ⟨rfl, hb1⟩; have k4 := boxed_below K4.out hb1; have k5 := boxed_below K5.out hb1; have K6 := Lib.hid k4; have K7 := Lib.hid k5; have HB1 := Lib.hid (HB0.out.trans (hb1.mono HB0.out.size)); clear hb1 k4 k5) | (go_at_call 39; (with_reducible refine (C2.out _ HB1.out).mono ?_); rintro e w2 ⟨rfl, hb2⟩; have k4 := boxed_below K6.out hb2; have k5 := boxed_below K7.out hb2; have z4 := k4.cell; have f4 := k4.frozen; have z5 := k5.cell; have f5 := k5.frozen; have K8 := Lib.hid k4; have K9 := Lib.hid k5; have HB2 := Lib.hid (HB1.out.trans (hb2.mono HB1.out.size)); clear hb2 k4 k5))
    obtain ⟨r4, r5⟩ := two_cells K8.out K9.out (by omega) (.slice none 0 0) (.int .i64 1)
    have y4 := r4.cell
    have y5 := r5.cell
    refine bodyPost_ret (v := .tuple #[.slice none 0 0, .int .i64 1]) (by simp [results, Try.f25, go_sem, y4, y5]) rfl ?_
    rw [HE.out]
    exact none_out ((HB2.out.setCell (p := ⟨w.heap.size, 0, none⟩) (Nat.le_refl _) _).setCell (p := ⟨w.heap.size + 1, 0, none⟩) (Nat.le_succ _) _) 1
end Go.Proofs.Ytobipbedkkmlcaa.Sr
