/- Layer 11: the laws: what their helpers answer; SeriesCheck. -/
import Derived.Test.YtobipbedkkmlcaaTaN
import Derived.Test.YtobipbedkkmlcaaSrS
import Derived.Test.YtobipbedkkmlcaaSrT
set_option maxRecDepth 100000
set_option linter.unusedVariables false
set_option linter.unusedSimpArgs false
namespace Go.Proofs.Ytobipbedkkmlcaa.Sr
open Go.RowKit
theorem great1_any (A : Option Addr) (c : Nat) (l : List S) (g : Nat) (w : World) (hg : g = w.heap.size) : Calls Try.prog 10 #[.slice (some ⟨g, 0, none⟩) 1 1] (w.alloc (.cells #[.slice A l.length c] 22)) fun e w' => e = .returned (.bool (greatL l)) ∧ (w.alloc (.cells #[.slice A l.length c] 22)) = w' := by
  subst hg
  have h := great_any [⟨A, c, l⟩] (by simp) w.heap.size 1 (w.alloc (.cells #[.slice A l.length c] 22)) (fun j hj => by
    match j, hj with
    | 0, _ => go_simp)
  have e : greatLL [⟨A, c, l⟩] = greatL l := by simp [greatLL]
  rw [e] at h
  exact h
theorem great2_any (A B : Option Addr) (c d : Nat) (l m : List S) (g : Nat) (w : World) (hg : g = w.heap.size) : Calls Try.prog 10 #[.slice (some ⟨g, 0, none⟩) 2 2] (w.alloc (.cells #[.slice A l.length c, .slice B m.length d] 22)) fun e w' => e = .returned (.bool (greatL l || greatL m)) ∧ (w.alloc (.cells #[.slice A l.length c, .slice B m.length d] 22)) = w' := by
  subst hg
  have h := great_any [⟨A, c, l⟩, ⟨B, d, m⟩] (by simp) w.heap.size 2 (w.alloc (.cells #[.slice A l.length c, .slice B m.length d] 22)) (fun j hj => by
    match j, hj with
    | 0, _ => go_simp
    | 1, _ => go_simp)
  have e : greatLL [⟨A, c, l⟩, ⟨B, d, m⟩] = (greatL l || greatL m) := by simp [greatLL]
  rw [e] at h
  exact h
theorem great3_any (A B C : Option Addr) (c d f : Nat) (l m n : List S) (g : Nat) (w : World) (hg : g = w.heap.size) : Calls Try.prog 10 #[.slice (some ⟨g, 0, none⟩) 3 3] (w.alloc (.cells #[.slice A l.length c, .slice B m.length d, .slice C n.length f] 22)) fun e w' => e = .returned (.bool (greatL l || (greatL m || greatL n))) ∧ (w.alloc (.cells #[.slice A l.length c, .slice B m.length d, .slice C n.length f] 22)) = w' := by
  subst hg
  have h := great_any [⟨A, c, l⟩, ⟨B, d, m⟩, ⟨C, f, n⟩] (by simp) w.heap.size 3 (w.alloc (.cells #[.slice A l.length c, .slice B m.length d, .slice C n.length f] 22)) (fun j hj => by
    match j, hj with
    | 0, _ => go_simp
    | 1, _ => go_simp
    | 2, _ => go_simp)
  have e : greatLL [⟨A, c, l⟩, ⟨B, d, m⟩, ⟨C, f, n⟩] = (greatL l || (greatL m || greatL n)) := by simp [greatLL]
  rw [e] at h
  exact h
theorem not_great {l : List S} (h : greatL l = false) : l.length ≤ 24 := by
  unfold greatL at h
  have := of_decide_eq_false h
  omega
/-- Equal lists. -/
theorem same_true (l : List S) (hl : l.length ≤ 100000) (A C : Option Addr) (c d : Nat) (w : World) (hA : LS w w.heap.size A l) (hC : LS w w.heap.size C l) :
    Calls Try.prog 14 #[.slice A l.length c, .slice C l.length d] w fun e w' => e = .returned (.bool true) ∧ Below w.heap.size w w' :=
  (same_any l l hl hl A C c d _ _ w hA hC).mono fun _ _ ⟨h1, n, h2⟩ => ⟨by rw [h1]; simp, by rw [h2]; exact below_drewN (Below.refl _ _) n⟩
theorem LS.up {w W : World} {A : Option Addr} {l : List S} (h : LS w w.heap.size A l) (hb : Below w.heap.size w W) : LS W W.heap.size A l := (h.below hb).more hb.size
set_option maxHeartbeats 4000000 in
theorem check_walk (kind : Int) (A : Option Addr) (c : Nat) (l : List S) (f t : Int) (w : World) (hA : LS w w.heap.size A l) :
    Calls Try.prog 3 #[.int .i64 kind, .slice A l.length c, .agg #[.int .i64 f, .int .i64 t]] w fun e w' => e = .returned (.bool true) ∧ Below w.heap.size w w' := by
  have HA := Lib.hid hA
  have KA := Lib.hid awake_any
  have KG := Lib.hid (fun g w (h : g = w.heap.size) => great1_any A c l g w h)
  have B0 : Hid (∀ o1 o2, Below w.heap.size w ((w.alloc o1).alloc o2)) := Lib.hid fun o1 o2 => ((Below.refl _ _).alloc (Nat.le_refl _) _).alloc (by simp) _
  cases hg : greatL l with
  | true =>
    rw [hg] at KG
    clear hA hg
    go_enter Try.func3, Try.ntmps3
    go_wp2_with fail
    with_reducible refine (KG.out _ _ (by simp)).mono ?_
    rintro e w1 ⟨rfl, rfl⟩
    go_wp2_with fail
    with_reducible refine (KA.out _).mono ?_
    rintro e w2 ⟨rfl, hb2⟩
    have HB2 := Lib.hid ((B0.out _ _).trans (hb2.mono (B0.out _ _).size))
    clear hb2
    go_wp2
    go_ret
    exact ⟨rfl, HB2.out⟩
  | false =>
    rw [hg] at KG
    have hl := not_great hg
    have C1 : Hid (∀ W, Below w.heap.size w W → Calls Try.prog 12 #[.int .i64 kind, .slice A l.length c] W fun e w' => e = .returned (.int .i64 (chk kind l : Nat)) ∧ Below W.heap.size W w') := Lib.hid fun W hb => pCheck_any kind l (by omega) A c W (HA.out.up hb)
    have C2 : Hid (∀ W, Below w.heap.size w W → Calls Try.prog 13 #[.int .i64 kind, .slice A l.length c] W fun e w' => e = .returned (.int .i64 (chk kind l : Nat)) ∧ Below W.heap.size W w') := Lib.hid fun W hb => check_any kind l (by omega) A c W (HA.out.up hb)
    have C3 : Hid (∀ W, Below w.heap.size w W → Calls Try.prog 15 #[.slice A l.length c, .int .i64 f, .int .i64 t] W (OwnPost (slcL l f t) W)) := Lib.hid fun W hb => pSlice_any l (by omega) A c f t W (HA.out.up hb)
    have C4 : Hid (∀ W, Below w.heap.size w W → Calls Try.prog 16 #[.slice A l.length c, .int .i64 f, .int .i64 t] W (OwnPost (slcL l f t) W)) := Lib.hid fun W hb => refSlice_any l (by omega) A c f t W (HA.out.up hb)
    have C5 : Hid (∀ W, Below w.heap.size w W → Calls Try.prog 17 #[.slice A l.length c] W fun e w' => e = .returned (.int .i64 (incO l)) ∧ Below W.heap.size W w') := Lib.hid fun W hb => pIncrease_any l (by omega) A c W (HA.out.up hb)
    have C6 : Hid (∀ W, Below w.heap.size w W → Calls Try.prog 18 #[.slice A l.length c] W fun e w' => e = .returned (.int .i64 (incO l)) ∧ Below W.heap.size W w') := Lib.hid fun W hb => increase_any l (by omega) A c W (HA.out.up hb)
    have C7 : Hid (∀ W, Below w.heap.size w W → Calls Try.prog 19 #[.slice A l.length c] W fun e w' => e = .returned (.int .i64 (rstO l : Nat)) ∧ Below W.heap.size W w') := Lib.hid fun W hb => pResets_any l (by omega) A c W (HA.out.up hb)
    have C8 : Hid (∀ W, Below w.heap.size w W → Calls Try.prog 20 #[.slice A l.length c] W fun e w' => e = .returned (.int .i64 (rstO l : Nat)) ∧ Below W.heap.size W w') := Lib.hid fun W hb => resets_any l (by omega) A c W (HA.out.up hb)
    have hsl := slc_len l f t
    have C9 : Hid (∀ W A1 c1 A2 c2, LS W W.heap.size A1 (slcL l f t) → LS W W.heap.size A2 (slcL l f t) → Calls Try.prog 14 #[.slice A1 (slcL l f t).length c1, .slice A2 (slcL l f t).length c2] W fun e w' => e = .returned (.bool true) ∧ Below W.heap.size W w') := Lib.hid fun W A1 c1 A2 c2 h1 h2 => same_true _ (by omega) A1 A2 c1 c2 W h1 h2
    have e1 : ∀ z : Int, (z == z) = true := fun z => by simp
    have hbx : w.heap.size < ((w.alloc (.cells #[.int .i64 f, .int .i64 t] 3)).alloc (.cells #[.slice A l.length c] 22)).heap.size := by simp; omega
    clear hA hg
    generalize chk kind l = z1 at *
    generalize incO l = z2 at *
    generalize rstO l = z3 at *
    generalize slcL l f t = m at *
    go_enter Try.func3, Try.ntmps3
    go_wp2_with fail
    with_reducible refine (KG.out _ _ (by simp)).mono ?_
    rintro e w1 ⟨rfl, rfl⟩
    go_wp2_with fail
    go_quiet (fail)
    have HW : Hid (∀ o1 o2 n, Below w.heap.size w (((w.alloc o1).alloc o2).drewN n)) := Lib.hid fun o1 o2 n => below_drewN (B0.out o1 o2) n
    have HW1 := Lib.hid (HW.out (.cells #[.int .i64 f, .int .i64 t] 3) (.cells #[.slice A l.length c] 22) nq)
    go_wp2_with fail
    with_reducible refine (C1.out _ (HW.out _ _ _)).mono ?_
    rintro e w2 ⟨rfl, hb2⟩
    have B2 := Lib.hid ((HW.out _ _ _).trans (hb2.mono (HW.out _ _ _).size))
    clear hb2
    go_wp2_with fail
    with_reducible refine (C2.out _ B2.out).mono ?_
    rintro e w3 ⟨rfl, hb3⟩
    have B3 := Lib.hid (B2.out.trans (hb3.mono B2.out.size))
    clear hb3
    go_wp2_with fail
    with_reducible refine (C3.out _ B3.out).mono ?_
    rintro e w4 ⟨v4, rfl, ho4, hb4⟩
    obtain ⟨A4, c4, rfl, hl4⟩ := ho4.form
    have HL4 := Lib.hid hl4
    have B4 := Lib.hid (B3.out.trans (hb4.mono B3.out.size))
    clear hb4 ho4 hl4
    go_wp2_with fail
    with_reducible refine (C4.out _ B4.out).mono ?_
    rintro e w5 ⟨v5, rfl, ho5, hb5⟩
    obtain ⟨A5, c5, rfl, hl5⟩ := ho5.form
    have HL5 := Lib.hid hl5
    have HL4 := Lib.hid (HL4.out.up hb5)
    have B5 := Lib.hid (B4.out.trans (hb5.mono B4.out.size))
    clear hb5 ho5 hl5
    go_wp2_with fail
    with_reducible refine (C9.out _ _ _ _ _ HL4.out HL5.out).mono ?_
    rintro e w6 ⟨rfl, hb6⟩
    have B6 := Lib.hid (B5.out.trans (hb6.mono B5.out.size))
    clear hb6
    go_wp2_with fail
    with_reducible refine (C5.out _ B6.out).mono ?_
    rintro e w7 ⟨rfl, hb7⟩
    have B7 := Lib.hid (B6.out.trans (hb7.mono B6.out.size))
    clear hb7
    go_wp2_with fail
    with_reducible refine (C6.out _ B7.out).mono ?_
    rintro e w8 ⟨rfl, hb8⟩
    have B8 := Lib.hid (B7.out.trans (hb8.mono B7.out.size))
    clear hb8
    go_wp2_with fail
    with_reducible refine (C7.out _ B8.out).mono ?_
    rintro e w9 ⟨rfl, hb9⟩
    have B9 := Lib.hid (B8.out.trans (hb9.mono B8.out.size))
    clear hb9
    go_wp2_with fail
    with_reducible refine (C8.out _ B9.out).mono ?_
    rintro e w10 ⟨rfl, hb10⟩
    have B10 := Lib.hid (B9.out.trans (hb10.mono B9.out.size))
    clear hb10
    go_wp2_with fail
    with_reducible refine (KA.out _).mono ?_
    rintro e w11 ⟨rfl, hb11⟩
    have B11 := Lib.hid (B10.out.trans (hb11.mono B10.out.size))
    clear hb11
    go_wp2
    go_ret
    exact ⟨rfl, B11.out⟩
end Go.Proofs.Ytobipbedkkmlcaa.Sr
