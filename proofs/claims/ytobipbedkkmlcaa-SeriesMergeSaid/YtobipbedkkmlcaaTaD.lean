/- Layer 11: the program's Remove. -/
import Derived.Test.YtobipbedkkmlcaaTaB
import Derived.Test.YtobipbedkkmlcaaTaC
set_option linter.unusedVariables false
set_option linter.unusedSimpArgs false
namespace Go.Proofs.Ytobipbedkkmlcaa.Sr
open Go.RowKit
theorem none_out {w w1 : World} (hb : Below w.heap.size w w1) (n : Nat) : OwnPost2 ([], n) w (.returned (.tuple #[.slice none 0 0, .int .i64 (n : Int)])) w1 := ⟨_, rfl, World.ownsRow_nil _ _ _ _, hb⟩
theorem OwnPost.two {r : List S} {w W W' : World} {e : Ending} {n : Nat} (h : OwnPost r W e W') (hb : Below w.heap.size w W) : ∃ v, e = .returned v ∧ OwnS W' w.heap.size v r ∧ Below w.heap.size w W' := by
  obtain ⟨v, he, ho, hb2⟩ := h
  exact ⟨v, he, ho.more hb.size, hb.trans (hb2.mono hb.size)⟩
theorem LS.of_reads {w : World} {B b off : Nat} {l : List S} (hb : b < B) (h : ∀ j (h : j < l.length), w.cell? ⟨b, off + j * 2, none⟩ = some (.int .i64 l[j].1) ∧ w.cell? ⟨b, off + j * 2 + 1, none⟩ = some (.int .i64 l[j].2)) : LS w B (some ⟨b, off, none⟩) l := fun _ => ⟨b, off, rfl, hb, h⟩
theorem LS.take_ {w : World} {B : Nat} {A : Option Addr} {l : List S} (h : LS w B A l) (k : Nat) : LS w B A (l.take k) := by
  intro hne
  obtain ⟨b, off, e, hb, hc⟩ := h (by intro e; rw [e] at hne; simp at hne)
  refine ⟨b, off, e, hb, fun j hj => ?_⟩
  have hj2 : j < l.length := by rw [List.length_take] at hj; omega
  rw [List.getElem_take]
  exact hc j hj2
theorem LS.drop_ {w : World} {B b off : Nat} {l : List S} (h : LS w B (some ⟨b, off, none⟩) l) {k c : Nat} (hc : l.length ≤ c) : LS w B (if c = k then some ⟨b, off, none⟩ else some ⟨b, off + k * 2, none⟩) (l.drop k) := by
  intro hne
  have hk : k < l.length := by
    rcases Nat.lt_or_ge k l.length with h1 | h1
    · exact h1
    · rw [List.drop_eq_nil_of_le h1] at hne; exact absurd rfl hne
  obtain ⟨b', off', e, hb, hcl⟩ := h (by intro e; rw [e] at hk; simp at hk)
  cases e
  rw [if_neg (by omega)]
  refine ⟨b, off + k * 2, rfl, hb, fun j hj => ?_⟩
  have hj2 : k + j < l.length := by rw [List.length_drop] at hj; omega
  rw [List.getElem_drop]
  have h1 := hcl (k + j) hj2
  rw [show off + k * 2 + j * 2 = off + (k + j) * 2 by omega]
  exact h1
theorem rows_two {w : World} {b : Nat} {A1 A2 : Option Addr} {c1 c2 : Nat} {l1 l2 : List S} {n1 n2 : Nat} (h1 : l1.length = n1) (h2 : l2.length = n2) (h : w.heap[b]? = some (.cells #[.slice A1 n1 c1, .slice A2 n2 c2] 22 (0, 0))) : Rows w b [⟨A1, c1, l1⟩, ⟨A2, c2, l2⟩] := by
  subst h1
  subst h2
  intro j hj
  match j, hj with
  | 0, _ => simp [World.cell?, h]
  | 1, _ => simp [World.cell?, h]
theorem rows_three {w : World} {b : Nat} {A1 A2 A3 : Option Addr} {c1 c2 c3 : Nat} {l1 l2 l3 : List S} {n1 n2 n3 : Nat} (h1 : l1.length = n1) (h2 : l2.length = n2) (h3 : l3.length = n3) (h : w.heap[b]? = some (.cells #[.slice A1 n1 c1, .slice A2 n2 c2, .slice A3 n3 c3] 22 (0, 0))) : Rows w b [⟨A1, c1, l1⟩, ⟨A2, c2, l2⟩, ⟨A3, c3, l3⟩] := by
  subst h1
  subst h2
  subst h3
  intro j hj
  match j, hj with
  | 0, _ => simp [World.cell?, h]
  | 1, _ => simp [World.cell?, h]
  | 2, _ => simp [World.cell?, h]
/-- Two lists, joined, in a world with a row of the two; three. -/
theorem concat_two (l1 l2 : List S) (h1 : l1.length ≤ 200000) (h2 : l2.length ≤ 200000) (A1 A2 : Option Addr) (c1 c2 n1 n2 : Nat) (e1 : l1.length = n1) (e2 : l2.length = n2) (w W : World) (g : Nat) (hb : Below w.heap.size w W) (hg : g < W.heap.size) (hr : W.heap[g]? = some (.cells #[.slice A1 n1 c1, .slice A2 n2 c2] 22 (0, 0))) (hL1 : LS W W.heap.size A1 l1) (hL2 : LS W W.heap.size A2 l2) :
    Calls Try.prog 30 #[.slice (some ⟨g, 0, none⟩) 2 2] W fun e w' => ∃ v, e = .returned v ∧ OwnS w' w.heap.size v (l1 ++ l2) ∧ Below w.heap.size w w' := by
  have h := concat_any [⟨A1, c1, l1⟩, ⟨A2, c2, l2⟩] (by simp) (by simp [allS]; omega) g 2 W ⟨rows_two e1 e2 hr, hg, fun k hk => by
    match k, hk with
    | 0, _ => exact hL1
    | 1, _ => exact hL2⟩
  have e : allS [⟨A1, c1, l1⟩, ⟨A2, c2, l2⟩] = l1 ++ l2 := by simp [allS]
  rw [e] at h
  exact h.mono fun _ _ h => h.two (n := 0) hb
theorem concat_three (l1 l2 l3 : List S) (h1 : l1.length ≤ 200000) (h2 : l2.length ≤ 200000) (h3 : l3.length ≤ 200000) (A1 A2 A3 : Option Addr) (c1 c2 c3 n1 n2 n3 : Nat) (e1 : l1.length = n1) (e2 : l2.length = n2) (e3 : l3.length = n3) (w W : World) (g : Nat) (hb : Below w.heap.size w W) (hg : g < W.heap.size) (hr : W.heap[g]? = some (.cells #[.slice A1 n1 c1, .slice A2 n2 c2, .slice A3 n3 c3] 22 (0, 0))) (hL1 : LS W W.heap.size A1 l1) (hL2 : LS W W.heap.size A2 l2) (hL3 : LS W W.heap.size A3 l3) :
    Calls Try.prog 30 #[.slice (some ⟨g, 0, none⟩) 3 3] W fun e w' => ∃ v, e = .returned v ∧ OwnS w' w.heap.size v (l1 ++ (l2 ++ l3)) ∧ Below w.heap.size w w' := by
  have h := concat_any [⟨A1, c1, l1⟩, ⟨A2, c2, l2⟩, ⟨A3, c3, l3⟩] (by simp) (by simp [allS]; omega) g 3 W ⟨rows_three e1 e2 e3 hr, hg, fun k hk => by
    match k, hk with
    | 0, _ => exact hL1
    | 1, _ => exact hL2
    | 2, _ => exact hL3⟩
  have e : allS [⟨A1, c1, l1⟩, ⟨A2, c2, l2⟩, ⟨A3, c3, l3⟩] = l1 ++ (l2 ++ l3) := by simp [allS]
  rw [e] at h
  exact h.mono fun _ _ h => h.two (n := 0) hb
set_option maxHeartbeats 4000000 in
theorem pRemove_any (l : List S) (hl : l.length ≤ 100000) (A : Option Addr) (c : Nat) (hcap : l.length ≤ c) (hcc : c ≤ maxLen) (t : Int) (w : World) (hA : LS w w.heap.size A l) :
    Calls Try.prog 23 #[.slice A l.length c, .int .i64 t] w (OwnPost2 (remO l t) w) := by
  have C := Lib.hid (invalid_any l hl A c w hA)
  by_cases hc : chk 1 l ≠ 0
  · have HE := Lib.hid (remO_bad (t := t) hc)
    rw [decide_eq_true hc] at C
    clear hc hA
    go_enter Try.func23, Try.ntmps23
    go_wp2_with (go_at_call 39; (with_reducible refine C.out.mono ?_); rintro e w1 ⟨rfl, hb1⟩; have HB1 := Lib.hid hb1; clear hb1)
    go_ret2
    rw [HE.out]
    exact none_out HB1.out 1
  rw [decide_eq_false hc] at C
  have hc : chk 1 l = 0 := by omega
  have HA := Lib.hid hA
  have PP : Hid (∀ w1, Below w.heap.size w w1 → Calls Try.prog 40 #[.slice A l.length c, .int .i64 t] w1 fun e w' => e = .returned (.tuple #[.int .i64 (plc l t : Nat), .bool (hit l t).isSome]) ∧ Below w.heap.size w w') := Lib.hid fun w1 hb => (find_any l hl (chk_asc hc) t A c w1 ((hA.below hb).more hb.size)).mono fun _ _ ⟨h1, h2⟩ => ⟨h1, hb.trans (h2.mono hb.size)⟩
  cases hh : hit l t with
  | none =>
    have HE := Lib.hid (remO_no hc hh)
    rw [hh] at PP
    dsimp only [Option.isSome] at PP
    generalize plc l t = k at *
    clear hc hA
    go_enter Try.func23, Try.ntmps23
    go_wp2_with (first | (go_at_call 39; (with_reducible refine C.out.mono ?_); rintro e w1 ⟨rfl, hb1⟩; have HB1 := Lib.hid hb1; clear hb1) | (go_at_call 40; (with_reducible refine (PP.out _ HB1.out).mono ?_); rintro e w2 ⟨rfl, hb2⟩; have HB2 := Lib.hid hb2; clear hb2))
    go_ret2
    rw [HE.out]
    exact none_out HB2.out 7
  | some v =>
    have HE := Lib.hid (remO_yes hc hh)
    have hlt : plc l t < l.length := by
      rcases Nat.lt_or_ge (plc l t) l.length with h | h
      · exact h
      · rw [hit_end (by have := plc_le l t; omega)] at hh; cases hh
    have HREM : Hid (remL l t = l.take (plc l t) ++ l.drop (plc l t + 1)) := Lib.hid rfl
    rw [HREM.out] at HE
    rw [hh] at PP
    dsimp only [Option.isSome] at PP
    clear HREM
    generalize plc l t = k at *
    obtain ⟨b, off, rfl, hb, _, _⟩ := HA.out.at_ hlt
    obtain ⟨D, hD⟩ : ∃ D, (if c = k + 1 then some (⟨b, off, none⟩ : Addr) else some ⟨b, off + (k + 1) * 2, none⟩) = D := ⟨_, rfl⟩
    have LD : LS w w.heap.size D (l.drop (k + 1)) := by
      have h := HA.out.drop_ (k := k + 1) hcap
      rw [hD] at h
      exact h
    have CC : Hid (∀ w1 W, Below w.heap.size w w1 → W = (w1.alloc (.cells #[.slice (some ⟨b, off, none⟩) k c, .slice D (l.length - (k + 1)) (c - (k + 1))] 22)).drew → Calls Try.prog 30 #[.slice (some ⟨w1.heap.size, 0, none⟩) 2 2] W fun e w' => ∃ v, e = .returned v ∧ OwnS w' w.heap.size v (l.take k ++ l.drop (k + 1)) ∧ Below w.heap.size w w') := Lib.hid fun w1 W hb hW => by
      have B1 : Below w.heap.size w W := by rw [hW]; exact (hb.alloc hb.size _).drew
      exact concat_two (l.take k) (l.drop (k + 1)) (by simp; omega) (by simp; omega) (some ⟨b, off, none⟩) D c (c - (k + 1)) k (l.length - (k + 1)) (by simp; omega) (by simp) w W _ B1 (by rw [hW]; simp) (by rw [hW]; exact heap_alloc_new w1 _) (((HA.out.take_ k).below B1).more B1.size) ((LD.below B1).more B1.size)
    have hkc : k ≤ c := by omega
    have hkc1 : k + 1 ≤ c := by omega
    have hkl : k + 1 ≤ l.length := by omega
    have hki0 : 0 ≤ (k : Int) + 1 := by omega
    have hki1 : (k : Int) + 1 ≤ (l.length : Int) := by omega
    have hw1 : IntKind.i64.wrap ((k : Int) + 1) = ((k + 1 : Nat) : Int) := by rw [IntWalk.i64_in _ (by omega)]; omega
    clear hc hA LD hh
    go_enter Try.func23, Try.ntmps23
    go_wp2_with (first | (go_at_call 39; (with_reducible refine C.out.mono ?_); rintro e w1 ⟨rfl, hb1⟩; have HB1 := Lib.hid hb1; clear hb1) | (go_at_call 40; (with_reducible refine (PP.out _ HB1.out).mono ?_); rintro e w2 ⟨rfl, hb2⟩; have HB2 := Lib.hid hb2; clear hb2))
    go_region_law (go_simp; go_at_call 30; (with_reducible refine (CC.out w2 _ HB2.out rfl).mono ?_); rintro e w3 ⟨v3, rfl, ho3, hb3⟩; have HO3 := Lib.hid ho3; have HB3 := Lib.hid hb3; clear ho3 hb3)
    all_goals
      go_wp2
      go_ret2
      rw [HE.out]
      exact ⟨_, rfl, HO3.out, HB3.out⟩
end Go.Proofs.Ytobipbedkkmlcaa.Sr
