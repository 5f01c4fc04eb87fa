/- Layer 11: SeriesChange. -/
import Derived.Test.YtobipbedkkmlcaaLb
import Derived.Test.YtobipbedkkmlcaaTaM
set_option maxRecDepth 100000
set_option linter.unusedVariables false
set_option linter.unusedSimpArgs false
namespace Go.Proofs.Ytobipbedkkmlcaa.Sr
open Go.RowKit
/-- A sample in a box. -/
structure Box2 (W : World) (X : Nat) (x : S) : Prop where
  c1 : W.cell? ⟨X, 0, none⟩ = some (.int .i64 x.1)
  c2 : W.cell? ⟨X, 1, none⟩ = some (.int .i64 x.2)
  lt : X < W.heap.size
theorem Box2.up {W V : World} {X : Nat} {x : S} (h : Box2 W X x) (hb : Below W.heap.size W V) : Box2 V X x := ⟨(hb.cell h.lt).trans h.c1, (hb.cell h.lt).trans h.c2, Nat.lt_of_lt_of_le h.lt hb.size⟩
theorem rMerge {A B : Option Addr} {c d : Nat} {l m : List S} {W : World} (hl : l.length ≤ 1000) (hm : m.length ≤ 1000) (h : LF W A c l) (k : LF W B d m) : Calls Try.prog 26 #[.slice A l.length c, .slice B m.length d] W (Out2 (mrgO l m) W) := (refMerge_any l m (by omega) (by omega) A B c d h.le k.le W h.ls k.ls).mono fun _ _ h => h.out
set_option maxHeartbeats 4000000 in
theorem change_walk (A : Option Addr) (c : Nat) (a : List S) (B : Option Addr) (d : Nat) (b : List S) (x : S) (w : World) (hA : LF w A c a) (hB : LF w B d b) :
    Calls Try.prog 4 #[.slice A a.length c, .slice B b.length d, .agg #[.int .i64 x.1, .int .i64 x.2]] w fun e w' => e = .returned (.bool true) ∧ Below w.heap.size w w' := by
  have KA := Lib.hid awake_any
  have KG := Lib.hid (fun g w (h : g = w.heap.size) => great2_any A B c d a b g w h)
  have B0 : Hid (∀ o1 o2, Below w.heap.size w ((w.alloc o1).alloc o2)) := Lib.hid fun o1 o2 => ((Below.refl _ _).alloc (Nat.le_refl _) _).alloc (by simp) _
  have BB := Lib.hid (B0.out (.cells #[.int .i64 x.1, .int .i64 x.2] 33) (.cells #[.slice A a.length c, .slice B b.length d] 22))
  cases hg : (greatL a || greatL b) with
  | true =>
    rw [hg] at KG
    clear hA hB hg
    go_enter Try.func4, Try.ntmps4
    go_wp2_with fail
    with_reducible refine (KG.out _ _ (by simp)).mono ?_
    rintro e w0_ ⟨rfl, rfl⟩
    go_wp2_with fail
    with_reducible refine (KA.out _).mono ?_
    rintro e wz ⟨rfl, hb⟩
    have BB := Lib.hid (BB.out.trans (hb.mono BB.out.size))
    clear hb
    go_wp2
    go_ret
    exact ⟨rfl, BB.out⟩
  | false =>
    rw [hg] at KG
    rw [Bool.or_eq_false_iff] at hg
    have hla := not_great hg.1
    have hlb := not_great hg.2
    have LA := Lib.hid (hA.up BB.out)
    have LB := Lib.hid (hB.up BB.out)
    have BX : Hid (Box2 ((w.alloc (.cells #[.int .i64 x.1, .int .i64 x.2] 33)).alloc (.cells #[.slice A a.length c, .slice B b.length d] 22)) w.heap.size x) := Lib.hid ⟨by go_simp, by go_simp, by simp; omega⟩
    have hi := insO_len a x
    have hr := remO_len a x.1
    have hm := mrgO_len a b
    have K1 : Hid (∀ W, LF W A c a → Calls Try.prog 21 #[.slice A a.length c, .agg #[.int .i64 x.1, .int .i64 x.2]] W (Out2 (insO a x) W)) := Lib.hid fun W h => gInsert x (by omega) h
    have K2 : Hid (∀ W, LF W A c a → Calls Try.prog 22 #[.slice A a.length c, .agg #[.int .i64 x.1, .int .i64 x.2]] W (Out2 (insO a x) W)) := Lib.hid fun W h => rInsert x (by omega) h
    have K3 : Hid (∀ W, LF W A c a → Calls Try.prog 23 #[.slice A a.length c, .int .i64 x.1] W (Out2 (remO a x.1) W)) := Lib.hid fun W h => gRemove x.1 (by omega) h
    have K4 : Hid (∀ W, LF W A c a → Calls Try.prog 24 #[.slice A a.length c, .int .i64 x.1] W (Out2 (remO a x.1) W)) := Lib.hid fun W h => rRemove x.1 (by omega) h
    have K5 : Hid (∀ W, LF W A c a → LF W B d b → Calls Try.prog 25 #[.slice A a.length c, .slice B b.length d] W (Out2 (mrgO a b) W)) := Lib.hid fun W h k => gMerge (by omega) (by omega) h k
    have K6 : Hid (∀ W, LF W A c a → LF W B d b → Calls Try.prog 26 #[.slice A a.length c, .slice B b.length d] W (Out2 (mrgO a b) W)) := Lib.hid fun W h k => rMerge (by omega) (by omega) h k
    have KS : Hid (∀ W A1 d1 A2 d2 (l : List S), l.length ≤ 1000 → LF W A1 d1 l → LF W A2 d2 l → Calls Try.prog 14 #[.slice A1 l.length d1, .slice A2 l.length d2] W fun e w' => e = .returned (.bool true) ∧ Below W.heap.size W w') := Lib.hid fun W A1 d1 A2 d2 l hl h k => gSameT hl h k
    obtain ⟨ri, hri⟩ : ∃ r, insO a x = r := ⟨_, rfl⟩
    obtain ⟨rr, hrr⟩ : ∃ r, remO a x.1 = r := ⟨_, rfl⟩
    obtain ⟨rm, hrm⟩ : ∃ r, mrgO a b = r := ⟨_, rfl⟩
    rw [hri] at K1 K2 hi
    rw [hrr] at K3 K4 hr
    rw [hrm] at K5 K6 hm
    have hi : Hid (ri.1.length ≤ 1000) := Lib.hid (by omega)
    have hr : Hid (rr.1.length ≤ 1000) := Lib.hid (by omega)
    have hm : Hid (rm.1.length ≤ 1000) := Lib.hid (by omega)
    have hne : ∀ z : Int, (z != z) = false := fun z => by simp
    have heq : ∀ z : Int, (z == z) = true := fun z => by simp
    clear hA hB hg hri hrr hrm hla hlb
    go_enter Try.func4, Try.ntmps4
    go_wp2_with fail
    with_reducible refine (KG.out _ _ (by simp)).mono ?_
    rintro e w0_ ⟨rfl, rfl⟩
    have X1 := BX.out.c1
    have X2 := BX.out.c2
    have X3 := BX.out.lt
    go_wp2_with fail
    with_reducible refine (K1.out _ LA.out).mono ?_
    clear X1 X2 X3
    rintro e w1_ ⟨Ai, ci, rfl, hl, hb⟩
    have BX := Lib.hid (BX.out.up hb)
    have LA := Lib.hid (LA.out.up hb)
    have LB := Lib.hid (LB.out.up hb)
    have BB := Lib.hid (BB.out.trans (hb.mono BB.out.size))
    clear hb
    have Li := Lib.hid hl
    clear hl
    have X1 := BX.out.c1
    have X2 := BX.out.c2
    have X3 := BX.out.lt
    go_wp2_with fail
    with_reducible refine (K2.out _ LA.out).mono ?_
    clear X1 X2 X3
    rintro e w2_ ⟨Aj, cj, rfl, hl, hb⟩
    have BX := Lib.hid (BX.out.up hb)
    have LA := Lib.hid (LA.out.up hb)
    have LB := Lib.hid (LB.out.up hb)
    have Li := Lib.hid (Li.out.up hb)
    have BB := Lib.hid (BB.out.trans (hb.mono BB.out.size))
    clear hb
    have Lj := Lib.hid hl
    clear hl
    have X1 := BX.out.c1
    have X2 := BX.out.c2
    have X3 := BX.out.lt
    go_wp2_with fail
    with_reducible refine (KS.out _ _ _ _ _ _ hi.out Li.out Lj.out).mono ?_
    clear X1 X2 X3
    rintro e w3_ ⟨rfl, hb⟩
    have BX := Lib.hid (BX.out.up hb)
    have LA := Lib.hid (LA.out.up hb)
    have LB := Lib.hid (LB.out.up hb)
    have Li := Lib.hid (Li.out.up hb)
    have Lj := Lib.hid (Lj.out.up hb)
    have BB := Lib.hid (BB.out.trans (hb.mono BB.out.size))
    clear hb
    have X1 := BX.out.c1
    have X2 := BX.out.c2
    have X3 := BX.out.lt
    go_wp2_with fail
    with_reducible refine (K3.out _ LA.out).mono ?_
    clear X1 X2 X3
    rintro e w4_ ⟨Ai, ci, rfl, hl, hb⟩
    have BX := Lib.hid (BX.out.up hb)
    have LA := Lib.hid (LA.out.up hb)
    have LB := Lib.hid (LB.out.up hb)
    have BB := Lib.hid (BB.out.trans (hb.mono BB.out.size))
    clear hb
    have Li := Lib.hid hl
    clear hl
    have X1 := BX.out.c1
    have X2 := BX.out.c2
    have X3 := BX.out.lt
    go_wp2_with fail
    with_reducible refine (K4.out _ LA.out).mono ?_
    clear X1 X2 X3
    rintro e w5_ ⟨Aj, cj, rfl, hl, hb⟩
    have BX := Lib.hid (BX.out.up hb)
    have LA := Lib.hid (LA.out.up hb)
    have LB := Lib.hid (LB.out.up hb)
    have Li := Lib.hid (Li.out.up hb)
    have BB := Lib.hid (BB.out.trans (hb.mono BB.out.size))
    clear hb
    have Lj := Lib.hid hl
    clear hl
    have X1 := BX.out.c1
    have X2 := BX.out.c2
    have X3 := BX.out.lt
    go_wp2_with fail
    with_reducible refine (KS.out _ _ _ _ _ _ hr.out Li.out Lj.out).mono ?_
    clear X1 X2 X3
    rintro e w6_ ⟨rfl, hb⟩
    have BX := Lib.hid (BX.out.up hb)
    have LA := Lib.hid (LA.out.up hb)
    have LB := Lib.hid (LB.out.up hb)
    have Li := Lib.hid (Li.out.up hb)
    have Lj := Lib.hid (Lj.out.up hb)
    have BB := Lib.hid (BB.out.trans (hb.mono BB.out.size))
    clear hb
    have X1 := BX.out.c1
    have X2 := BX.out.c2
    have X3 := BX.out.lt
    go_wp2_with fail
    with_reducible refine (K5.out _ LA.out LB.out).mono ?_
    clear X1 X2 X3
    rintro e w7_ ⟨Ai, ci, rfl, hl, hb⟩
    have BX := Lib.hid (BX.out.up hb)
    have LA := Lib.hid (LA.out.up hb)
    have LB := Lib.hid (LB.out.up hb)
    have BB := Lib.hid (BB.out.trans (hb.mono BB.out.size))
    clear hb
    have Li := Lib.hid hl
    clear hl
    have X1 := BX.out.c1
    have X2 := BX.out.c2
    have X3 := BX.out.lt
    go_wp2_with fail
    with_reducible refine (K6.out _ LA.out LB.out).mono ?_
    clear X1 X2 X3
    rintro e w8_ ⟨Aj, cj, rfl, hl, hb⟩
    have BX := Lib.hid (BX.out.up hb)
    have LA := Lib.hid (LA.out.up hb)
    have LB := Lib.hid (LB.out.up hb)
    have Li := Lib.hid (Li.out.up hb)
    have BB := Lib.hid (BB.out.trans (hb.mono BB.out.size))
    clear hb
    have Lj := Lib.hid hl
    clear hl
    have X1 := BX.out.c1
    have X2 := BX.out.c2
    have X3 := BX.out.lt
    go_wp2_with fail
    with_reducible refine (KS.out _ _ _ _ _ _ hm.out Li.out Lj.out).mono ?_
    clear X1 X2 X3
    rintro e w9_ ⟨rfl, hb⟩
    have BX := Lib.hid (BX.out.up hb)
    have LA := Lib.hid (LA.out.up hb)
    have LB := Lib.hid (LB.out.up hb)
    have Li := Lib.hid (Li.out.up hb)
    have Lj := Lib.hid (Lj.out.up hb)
    have BB := Lib.hid (BB.out.trans (hb.mono BB.out.size))
    clear hb
    have X1 := BX.out.c1
    have X2 := BX.out.c2
    have X3 := BX.out.lt
    go_wp2_with fail
    with_reducible refine (KA.out _).mono ?_
    clear X1 X2 X3
    rintro e wz ⟨rfl, hb⟩
    have BB := Lib.hid (BB.out.trans (hb.mono BB.out.size))
    clear hb
    go_wp2
    go_ret
    exact ⟨rfl, BB.out⟩
end Go.Proofs.Ytobipbedkkmlcaa.Sr
