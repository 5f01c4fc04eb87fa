/- Layer 11: SeriesMerge. -/
import Derived.Test.YtobipbedkkmlcaaLi
import Derived.Test.YtobipbedkkmlcaaLg
set_option maxRecDepth 100000
set_option linter.unusedVariables false
set_option linter.unusedSimpArgs false
namespace Go.Proofs.Ytobipbedkkmlcaa.Sr
open Go.RowKit
open Go.Shelf
attribute [local go_sem] Oper.semAt_some
section
variable {A B C : Option Addr} {ca cb cc : Nat} {a b c : List S} {w : World}
theorem mrg_start : Boxed ((w.alloc (.cells #[.bool false] 4)).alloc (.cells #[.slice A a.length ca, .slice B b.length cb, .slice C c.length cc] 22)) w.heap.size 4 (.bool false) := (Boxed.new w _ _).alloc _
set_option maxHeartbeats 2000000 in
theorem merge_great (hA : LF w A ca a) (hB : LF w B cb b) (hC : LF w C cc c) (hg : (greatL a || (greatL b || greatL c)) = true) :
    Calls Try.prog 6 #[.slice A a.length ca, .slice B b.length cb, .slice C c.length cc] w fun e w' => e = .returned (.bool true) ∧ Below w.heap.size w w' := by
  have KA := Lib.hid awake_any
  have KG := Lib.hid (fun g w (h : g = w.heap.size) => great3_any A B C ca cb cc a b c g w h)
  have BB : Hid (Below w.heap.size w ((w.alloc (.cells #[.bool false] 4)).alloc (.cells #[.slice A a.length ca, .slice B b.length cb, .slice C c.length cc] 22))) := Lib.hid (((Below.refl _ _).alloc (Nat.le_refl _) _).alloc (by simp) _)
  have BR : Hid (Boxed ((w.alloc (.cells #[.bool false] 4)).alloc (.cells #[.slice A a.length ca, .slice B b.length cb, .slice C c.length cc] 22)) w.heap.size 4 (.bool false)) := Lib.hid mrg_start
  have LA := Lib.hid (hA.up BB.out)
  have LB := Lib.hid (hB.up BB.out)
  have LC := Lib.hid (hC.up BB.out)
  clear hA hB hC
  rw [hg] at KG
  clear hg
  go_enter Try.func6, Try.ntmps6
  go_wp2_with fail
  with_reducible refine (KG.out _ _ (by simp)).mono ?_
  rintro e w0_ ⟨rfl, rfl⟩
  go_wp2_with fail
  with_reducible refine (KA.out _).mono ?_
  rintro e wz ⟨rfl, hb⟩
  have BR := Lib.hid (boxed_below BR.out hb)
  have BB := Lib.hid (BB.out.trans (hb.mono BB.out.size))
  clear hb
  have r1 := BR.out.cell
  have r2 := BR.out.frozen
  go_wp2
  have r3 := (Boxed.set (.bool true) BR.out).cell
  refine bodyPost_ret (v := .bool true) (by simp [results, Try.f6, go_sem, r3]) rfl ?_
  exact ⟨rfl, BB.out.setCell (p := ⟨w.heap.size, 0, none⟩) (Nat.le_refl _) _⟩
set_option maxHeartbeats 2000000 in
theorem merge_invalid (hA : LF w A ca a) (hB : LF w B cb b) (hC : LF w C cc c) (hg : (greatL a || (greatL b || greatL c)) = false) (hla : a.length ≤ 24) (hlb : b.length ≤ 24) (hlc : c.length ≤ 24) (hi : chk 1 a ≠ 0 ∨ chk 1 b ≠ 0 ∨ chk 1 c ≠ 0) :
    Calls Try.prog 6 #[.slice A a.length ca, .slice B b.length cb, .slice C c.length cc] w fun e w' => e = .returned (.bool true) ∧ Below w.heap.size w w' := by
  have KA := Lib.hid awake_any
  have KG := Lib.hid (fun g w (h : g = w.heap.size) => great3_any A B C ca cb cc a b c g w h)
  have BB : Hid (Below w.heap.size w ((w.alloc (.cells #[.bool false] 4)).alloc (.cells #[.slice A a.length ca, .slice B b.length cb, .slice C c.length cc] 22))) := Lib.hid (((Below.refl _ _).alloc (Nat.le_refl _) _).alloc (by simp) _)
  have BR : Hid (Boxed ((w.alloc (.cells #[.bool false] 4)).alloc (.cells #[.slice A a.length ca, .slice B b.length cb, .slice C c.length cc] 22)) w.heap.size 4 (.bool false)) := Lib.hid mrg_start
  have LA := Lib.hid (hA.up BB.out)
  have LB := Lib.hid (hB.up BB.out)
  have LC := Lib.hid (hC.up BB.out)
  clear hA hB hC
  rw [hg] at KG
  clear hg
  have KV1 : Hid (∀ W, LF W A ca a → Calls Try.prog 28 #[.slice A a.length ca] W fun e w' => e = .returned (.bool (decide (chk 1 a = 0))) ∧ Below W.heap.size W w') := Lib.hid fun W h => rValid (by omega) h
  have KV2 : Hid (∀ W, LF W B cb b → Calls Try.prog 28 #[.slice B b.length cb] W fun e w' => e = .returned (.bool (decide (chk 1 b = 0))) ∧ Below W.heap.size W w') := Lib.hid fun W h => rValid (by omega) h
  have KV3 : Hid (∀ W, LF W C cc c → Calls Try.prog 28 #[.slice C c.length cc] W fun e w' => e = .returned (.bool (decide (chk 1 c = 0))) ∧ Below W.heap.size W w') := Lib.hid fun W h => rValid (by omega) h
  by_cases h1 : chk 1 a = 0
  · rw [decide_eq_true h1] at KV1
    by_cases h2 : chk 1 b = 0
    · have h3 : chk 1 c ≠ 0 := by omega
      rw [decide_eq_true h2] at KV2
      rw [decide_eq_false h3] at KV3
      clear h1 h2 h3 hi
      go_enter Try.func6, Try.ntmps6
      go_wp2_with fail
      with_reducible refine (KG.out _ _ (by simp)).mono ?_
      rintro e w0_ ⟨rfl, rfl⟩
      go_wp2_with fail
      with_reducible refine (KV1.out _ LA.out).mono ?_
      rintro e w1_ ⟨rfl, hb⟩
      have BR := Lib.hid (boxed_below BR.out hb)
      have LA := Lib.hid (LA.out.up hb)
      have LB := Lib.hid (LB.out.up hb)
      have LC := Lib.hid (LC.out.up hb)
      have BB := Lib.hid (BB.out.trans (hb.mono BB.out.size))
      clear hb
      go_wp2_with fail
      with_reducible refine (KV2.out _ LB.out).mono ?_
      rintro e w2_ ⟨rfl, hb⟩
      have BR := Lib.hid (boxed_below BR.out hb)
      have LA := Lib.hid (LA.out.up hb)
      have LB := Lib.hid (LB.out.up hb)
      have LC := Lib.hid (LC.out.up hb)
      have BB := Lib.hid (BB.out.trans (hb.mono BB.out.size))
      clear hb
      go_wp2_with fail
      with_reducible refine (KV3.out _ LC.out).mono ?_
      rintro e w3_ ⟨rfl, hb⟩
      have BR := Lib.hid (boxed_below BR.out hb)
      have LA := Lib.hid (LA.out.up hb)
      have LB := Lib.hid (LB.out.up hb)
      have LC := Lib.hid (LC.out.up hb)
      have BB := Lib.hid (BB.out.trans (hb.mono BB.out.size))
      clear hb
      go_wp2_with fail
      with_reducible refine (KA.out _).mono ?_
      rintro e wz ⟨rfl, hb⟩
      have BR := Lib.hid (boxed_below BR.out hb)
      have BB := Lib.hid (BB.out.trans (hb.mono BB.out.size))
      clear hb
      have r1 := BR.out.cell
      have r2 := BR.out.frozen
      go_wp2
      have r3 := (Boxed.set (.bool true) BR.out).cell
      refine bodyPost_ret (v := .bool true) (by simp [results, Try.f6, go_sem, r3]) rfl ?_
      exact ⟨rfl, BB.out.setCell (p := ⟨w.heap.size, 0, none⟩) (Nat.le_refl _) _⟩
    · rw [decide_eq_false h2] at KV2
      clear h1 h2 hi
      go_enter Try.func6, Try.ntmps6
      go_wp2_with fail
      with_reducible refine (KG.out _ _ (by simp)).mono ?_
      rintro e w0_ ⟨rfl, rfl⟩
      go_wp2_with fail
      with_reducible refine (KV1.out _ LA.out).mono ?_
      rintro e w1_ ⟨rfl, hb⟩
      have BR := Lib.hid (boxed_below BR.out hb)
      have LA := Lib.hid (LA.out.up hb)
      have LB := Lib.hid (LB.out.up hb)
      have LC := Lib.hid (LC.out.up hb)
      have BB := Lib.hid (BB.out.trans (hb.mono BB.out.size))
      clear hb
      go_wp2_with fail
      with_reducible refine (KV2.out _ LB.out).mono ?_
      rintro e w2_ ⟨rfl, hb⟩
      have BR := Lib.hid (boxed_below BR.out hb)
      have LA := Lib.hid (LA.out.up hb)
      have LB := Lib.hid (LB.out.up hb)
      have LC := Lib.hid (LC.out.up hb)
      have BB := Lib.hid (BB.out.trans (hb.mono BB.out.size))
      clear hb
      go_wp2_with fail
      with_reducible refine (KA.out _).mono ?_
      rintro e wz ⟨rfl, hb⟩
      have BR := Lib.hid (boxed_below BR.out hb)
      have BB := Lib.hid (BB.out.trans (hb.mono BB.out.size))
      clear hb
      have r1 := BR.out.cell
      have r2 := BR.out.frozen
      go_wp2
      have r3 := (Boxed.set (.bool true) BR.out).cell
      refine bodyPost_ret (v := .bool true) (by simp [results, Try.f6, go_sem, r3]) rfl ?_
      exact ⟨rfl, BB.out.setCell (p := ⟨w.heap.size, 0, none⟩) (Nat.le_refl _) _⟩
  · rw [decide_eq_false h1] at KV1
    clear h1 hi
    go_enter Try.func6, Try.ntmps6
    go_wp2_with fail
    with_reducible refine (KG.out _ _ (by simp)).mono ?_
    rintro e w0_ ⟨rfl, rfl⟩
    go_wp2_with fail
    with_reducible refine (KV1.out _ LA.out).mono ?_
    rintro e w1_ ⟨rfl, hb⟩
    have BR := Lib.hid (boxed_below BR.out hb)
    have LA := Lib.hid (LA.out.up hb)
    have LB := Lib.hid (LB.out.up hb)
    have LC := Lib.hid (LC.out.up hb)
    have BB := Lib.hid (BB.out.trans (hb.mono BB.out.size))
    clear hb
    go_wp2_with fail
    with_reducible refine (KA.out _).mono ?_
    rintro e wz ⟨rfl, hb⟩
    have BR := Lib.hid (boxed_below BR.out hb)
    have BB := Lib.hid (BB.out.trans (hb.mono BB.out.size))
    clear hb
    have r1 := BR.out.cell
    have r2 := BR.out.frozen
    go_wp2
    have r3 := (Boxed.set (.bool true) BR.out).cell
    refine bodyPost_ret (v := .bool true) (by simp [results, Try.f6, go_sem, r3]) rfl ?_
    exact ⟨rfl, BB.out.setCell (p := ⟨w.heap.size, 0, none⟩) (Nat.le_refl _) _⟩
set_option maxHeartbeats 2000000 in
theorem merge_clash (hA : LF w A ca a) (hB : LF w B cb b) (hC : LF w C cc c) (hg : (greatL a || (greatL b || greatL c)) = false) (hla : a.length ≤ 24) (hlb : b.length ≤ 24) (hlc : c.length ≤ 24) (h1 : chk 1 a = 0) (h2 : chk 1 b = 0) (h3 : chk 1 c = 0) (hm : mrgO a b = ([], 16)) :
    Calls Try.prog 6 #[.slice A a.length ca, .slice B b.length cb, .slice C c.length cc] w fun e w' => e = .returned (.bool true) ∧ Below w.heap.size w w' := by
  have KA := Lib.hid awake_any
  have KG := Lib.hid (fun g w (h : g = w.heap.size) => great3_any A B C ca cb cc a b c g w h)
  have BB : Hid (Below w.heap.size w ((w.alloc (.cells #[.bool false] 4)).alloc (.cells #[.slice A a.length ca, .slice B b.length cb, .slice C c.length cc] 22))) := Lib.hid (((Below.refl _ _).alloc (Nat.le_refl _) _).alloc (by simp) _)
  have BR : Hid (Boxed ((w.alloc (.cells #[.bool false] 4)).alloc (.cells #[.slice A a.length ca, .slice B b.length cb, .slice C c.length cc] 22)) w.heap.size 4 (.bool false)) := Lib.hid mrg_start
  have LA := Lib.hid (hA.up BB.out)
  have LB := Lib.hid (hB.up BB.out)
  have LC := Lib.hid (hC.up BB.out)
  clear hA hB hC
  rw [hg] at KG
  clear hg
  have KV1 : Hid (∀ W, LF W A ca a → Calls Try.prog 28 #[.slice A a.length ca] W fun e w' => e = .returned (.bool (decide (chk 1 a = 0))) ∧ Below W.heap.size W w') := Lib.hid fun W h => rValid (by omega) h
  have KV2 : Hid (∀ W, LF W B cb b → Calls Try.prog 28 #[.slice B b.length cb] W fun e w' => e = .returned (.bool (decide (chk 1 b = 0))) ∧ Below W.heap.size W w') := Lib.hid fun W h => rValid (by omega) h
  have KV3 : Hid (∀ W, LF W C cc c → Calls Try.prog 28 #[.slice C c.length cc] W fun e w' => e = .returned (.bool (decide (chk 1 c = 0))) ∧ Below W.heap.size W w') := Lib.hid fun W h => rValid (by omega) h
  rw [decide_eq_true h1] at KV1
  rw [decide_eq_true h2] at KV2
  rw [decide_eq_true h3] at KV3
  have K1 : Hid (∀ W, LF W A ca a → LF W B cb b → Calls Try.prog 25 #[.slice A a.length ca, .slice B b.length cb] W (Out2 (mrgO a b) W)) := Lib.hid fun W h k => gMerge (by omega) (by omega) h k
  have K2 : Hid (∀ W, LF W A ca a → LF W B cb b → Calls Try.prog 25 #[.slice B b.length cb, .slice A a.length ca] W (Out2 (mrgO a b) W)) := Lib.hid fun W h k => by
    have := gMerge (by omega) (by omega) k h
    rw [mrgO_comm b a] at this
    exact this
  have K3 : Hid (∀ W, LF W A ca a → Calls Try.prog 25 #[.slice A a.length ca, .slice A a.length ca] W (Out2 (a, 0) W)) := Lib.hid fun W h => by
    have := gMerge (by omega) (by omega) h h
    rw [mrgO_self h1] at this
    exact this
  have KS : Hid (∀ W A1 d1 A2 d2 (l : List S), l.length ≤ 1000 → LF W A1 d1 l → LF W A2 d2 l → Calls Try.prog 14 #[.slice A1 l.length d1, .slice A2 l.length d2] W fun e w' => e = .returned (.bool true) ∧ Below W.heap.size W w') := Lib.hid fun W A1 d1 A2 d2 l hl h k => gSameT hl h k
  have hal : Hid (a.length ≤ 1000) := Lib.hid (by omega)
  have hne : ∀ z : Int, (z != z) = false := fun z => by simp
  have heq : ∀ z : Int, (z == z) = true := fun z => by simp
  rw [hm] at K1 K2
  have KE : Hid (∀ W A1 d1 A2 d2, LF W A1 d1 [] → LF W A2 d2 [] → Calls Try.prog 14 #[.slice A1 0 d1, .slice A2 0 d2] W fun e w' => e = .returned (.bool true) ∧ Below W.heap.size W w') := Lib.hid fun W A1 d1 A2 d2 h k => gSameT (l := []) (by simp) h k
  clear h1 h2 h3 hm
  go_enter Try.func6, Try.ntmps6
  go_wp2_with fail
  with_reducible refine (KG.out _ _ (by simp)).mono ?_
  rintro e w0_ ⟨rfl, rfl⟩
  go_wp2_with fail
  with_reducible refine (KV1.out _ LA.out).mono ?_
  rintro e w1_ ⟨rfl, hb⟩
  have BR := Lib.hid (boxed_below BR.out hb)
  have LA := Lib.hid (LA.out.up hb)
  have LB := Lib.hid (LB.out.up hb)
  have LC := Lib.hid (LC.out.up hb)
  have BB := Lib.hid (BB.out.trans (hb.mono BB.out.size))
  clear hb
  go_wp2_with fail
  with_reducible refine (KV2.out _ LB.out).mono ?_
  rintro e w2_ ⟨rfl, hb⟩
  have BR := Lib.hid (boxed_below BR.out hb)
  have LA := Lib.hid (LA.out.up hb)
  have LB := Lib.hid (LB.out.up hb)
  have LC := Lib.hid (LC.out.up hb)
  have BB := Lib.hid (BB.out.trans (hb.mono BB.out.size))
  clear hb
  go_wp2_with fail
  with_reducible refine (KV3.out _ LC.out).mono ?_
  rintro e w3_ ⟨rfl, hb⟩
  have BR := Lib.hid (boxed_below BR.out hb)
  have LA := Lib.hid (LA.out.up hb)
  have LB := Lib.hid (LB.out.up hb)
  have LC := Lib.hid (LC.out.up hb)
  have BB := Lib.hid (BB.out.trans (hb.mono BB.out.size))
  clear hb
  go_wp2_with fail
  with_reducible refine (K1.out _ LA.out LB.out).mono ?_
  rintro e w4_ ⟨Am, cm, rfl, hl, hb⟩
  have BR := Lib.hid (boxed_below BR.out hb)
  have LA := Lib.hid (LA.out.up hb)
  have LB := Lib.hid (LB.out.up hb)
  have LC := Lib.hid (LC.out.up hb)
  have BB := Lib.hid (BB.out.trans (hb.mono BB.out.size))
  clear hb
  have Lm := Lib.hid hl
  clear hl
  go_wp2_with fail
  with_reducible refine (K2.out _ LA.out LB.out).mono ?_
  rintro e w5_ ⟨An, cn, rfl, hl, hb⟩
  have BR := Lib.hid (boxed_below BR.out hb)
  have LA := Lib.hid (LA.out.up hb)
  have LB := Lib.hid (LB.out.up hb)
  have LC := Lib.hid (LC.out.up hb)
  have Lm := Lib.hid (Lm.out.up hb)
  have BB := Lib.hid (BB.out.trans (hb.mono BB.out.size))
  clear hb
  have Ln := Lib.hid hl
  clear hl
  go_wp2_with fail
  with_reducible refine (K3.out _ LA.out).mono ?_
  rintro e w6_ ⟨Aq, cq, rfl, hl, hb⟩
  have BR := Lib.hid (boxed_below BR.out hb)
  have LA := Lib.hid (LA.out.up hb)
  have LB := Lib.hid (LB.out.up hb)
  have LC := Lib.hid (LC.out.up hb)
  have Lm := Lib.hid (Lm.out.up hb)
  have Ln := Lib.hid (Ln.out.up hb)
  have BB := Lib.hid (BB.out.trans (hb.mono BB.out.size))
  clear hb
  have Lq := Lib.hid hl
  clear hl
  go_wp2_with fail
  with_reducible refine (KE.out _ _ _ _ _ Lm.out Ln.out).mono ?_
  rintro e w7_ ⟨rfl, hb⟩
  have BR := Lib.hid (boxed_below BR.out hb)
  have LA := Lib.hid (LA.out.up hb)
  have LB := Lib.hid (LB.out.up hb)
  have LC := Lib.hid (LC.out.up hb)
  have Lm := Lib.hid (Lm.out.up hb)
  have Ln := Lib.hid (Ln.out.up hb)
  have Lq := Lib.hid (Lq.out.up hb)
  have BB := Lib.hid (BB.out.trans (hb.mono BB.out.size))
  clear hb
  go_wp2_with fail
  with_reducible refine (KS.out _ _ _ _ _ _ hal.out Lq.out LA.out).mono ?_
  rintro e w8_ ⟨rfl, hb⟩
  have BR := Lib.hid (boxed_below BR.out hb)
  have LA := Lib.hid (LA.out.up hb)
  have LB := Lib.hid (LB.out.up hb)
  have LC := Lib.hid (LC.out.up hb)
  have Lm := Lib.hid (Lm.out.up hb)
  have Ln := Lib.hid (Ln.out.up hb)
  have Lq := Lib.hid (Lq.out.up hb)
  have BB := Lib.hid (BB.out.trans (hb.mono BB.out.size))
  clear hb
  go_wp2_with fail
  with_reducible refine (KA.out _).mono ?_
  rintro e wz ⟨rfl, hb⟩
  have BR := Lib.hid (boxed_below BR.out hb)
  have BB := Lib.hid (BB.out.trans (hb.mono BB.out.size))
  clear hb
  have r1 := BR.out.cell
  have r2 := BR.out.frozen
  go_wp2
  have r3 := (Boxed.set (.bool true) BR.out).cell
  refine bodyPost_ret (v := .bool true) (by simp [results, Try.f6, go_sem, r3]) rfl ?_
  exact ⟨rfl, BB.out.setCell (p := ⟨w.heap.size, 0, none⟩) (Nat.le_refl _) _⟩
set_option maxHeartbeats 8000000 in
theorem merge_main (hA : LF w A ca a) (hB : LF w B cb b) (hC : LF w C cc c) (hg : (greatL a || (greatL b || greatL c)) = false) (hla : a.length ≤ 24) (hlb : b.length ≤ 24) (hlc : c.length ≤ 24) (h1 : chk 1 a = 0) (h2 : chk 1 b = 0) (h3 : chk 1 c = 0) (ab : List S) (hm : mrgO a b = (ab, 0)) (hmr : mrg a b = some ab) (hlab : ab.length ≤ 48) :
    Calls Try.prog 6 #[.slice A a.length ca, .slice B b.length cb, .slice C c.length cc] w fun e w' => e = .returned (.bool true) ∧ Below w.heap.size w w' := by
  have KA := Lib.hid awake_any
  have KG := Lib.hid (fun g w (h : g = w.heap.size) => great3_any A B C ca cb cc a b c g w h)
  have BB : Hid (Below w.heap.size w ((w.alloc (.cells #[.bool false] 4)).alloc (.cells #[.slice A a.length ca, .slice B b.length cb, .slice C c.length cc] 22))) := Lib.hid (((Below.refl _ _).alloc (Nat.le_refl _) _).alloc (by simp) _)
  have BR : Hid (Boxed ((w.alloc (.cells #[.bool false] 4)).alloc (.cells #[.slice A a.length ca, .slice B b.length cb, .slice C c.length cc] 22)) w.heap.size 4 (.bool false)) := Lib.hid mrg_start
  have LA := Lib.hid (hA.up BB.out)
  have LB := Lib.hid (hB.up BB.out)
  have LC := Lib.hid (hC.up BB.out)
  clear hA hB hC
  rw [hg] at KG
  clear hg
  have KV1 : Hid (∀ W, LF W A ca a → Calls Try.prog 28 #[.slice A a.length ca] W fun e w' => e = .returned (.bool (decide (chk 1 a = 0))) ∧ Below W.heap.size W w') := Lib.hid fun W h => rValid (by omega) h
  have KV2 : Hid (∀ W, LF W B cb b → Calls Try.prog 28 #[.slice B b.length cb] W fun e w' => e = .returned (.bool (decide (chk 1 b = 0))) ∧ Below W.heap.size W w') := Lib.hid fun W h => rValid (by omega) h
  have KV3 : Hid (∀ W, LF W C cc c → Calls Try.prog 28 #[.slice C c.length cc] W fun e w' => e = .returned (.bool (decide (chk 1 c = 0))) ∧ Below W.heap.size W w') := Lib.hid fun W h => rValid (by omega) h
  rw [decide_eq_true h1] at KV1
  rw [decide_eq_true h2] at KV2
  rw [decide_eq_true h3] at KV3
  have K1 : Hid (∀ W, LF W A ca a → LF W B cb b → Calls Try.prog 25 #[.slice A a.length ca, .slice B b.length cb] W (Out2 (mrgO a b) W)) := Lib.hid fun W h k => gMerge (by omega) (by omega) h k
  have K2 : Hid (∀ W, LF W A ca a → LF W B cb b → Calls Try.prog 25 #[.slice B b.length cb, .slice A a.length ca] W (Out2 (mrgO a b) W)) := Lib.hid fun W h k => by
    have := gMerge (by omega) (by omega) k h
    rw [mrgO_comm b a] at this
    exact this
  have K3 : Hid (∀ W, LF W A ca a → Calls Try.prog 25 #[.slice A a.length ca, .slice A a.length ca] W (Out2 (a, 0) W)) := Lib.hid fun W h => by
    have := gMerge (by omega) (by omega) h h
    rw [mrgO_self h1] at this
    exact this
  have KS : Hid (∀ W A1 d1 A2 d2 (l : List S), l.length ≤ 1000 → LF W A1 d1 l → LF W A2 d2 l → Calls Try.prog 14 #[.slice A1 l.length d1, .slice A2 l.length d2] W fun e w' => e = .returned (.bool true) ∧ Below W.heap.size W w') := Lib.hid fun W A1 d1 A2 d2 l hl h k => gSameT hl h k
  have hal : Hid (a.length ≤ 1000) := Lib.hid (by omega)
  have hne : ∀ z : Int, (z != z) = false := fun z => by simp
  have heq : ∀ z : Int, (z == z) = true := fun z => by simp
  rw [hm] at K1 K2
  have habl : Hid (ab.length ≤ 1000) := Lib.hid (by omega)
  have KI : Hid (∀ W A1 d1 (all : List S) (x : S), all.length ≤ 48 → LF W A1 d1 all → Calls Try.prog 21 #[.slice A1 all.length d1, .agg #[.int .i64 x.1, .int .i64 x.2]] W (Out2 (insO all x) W)) := Lib.hid fun W A1 d1 all x hl h => gInsert x (by omega) h
  have HR : Hid (∀ (d all : List S) (x : S), Adds a d all → (∀ z ∈ d, z ∈ b) → x ∈ b → d.length < b.length → (insO all x = ([], 6) ∧ Adds a (x :: d) all) ∨ (insO all x = (insL all x, 0) ∧ Adds a (x :: d) (insL all x))) := Lib.hid fun d all x h hd hx hn => h.round h1 h2 (by rw [hmr]; simp) hd hx (by omega)
  have HALL : Hid (∀ d all, Adds a d all → (∀ z, z ∈ d ↔ z ∈ b) → all = ab) := Lib.hid fun d all h hd => h.all hd h1 h2 hmr
  have HLEN : Hid (∀ d all, Adds a d all → d.length < b.length → all.length ≤ 48) := Lib.hid fun d all h hd => by have := h.len; omega
  have H0 : Hid (Adds a [] a) := Lib.hid (Adds.start h1)
  have K4 : Hid (∀ W, LF W B cb b → LF W C cc c → Calls Try.prog 25 #[.slice B b.length cb, .slice C c.length cc] W (Out2 (mrgO b c) W)) := Lib.hid fun W h k => gMerge (by omega) (by omega) h k
  have HM : Hid (mrgO b c = ([], 16) ∨ ∃ bc, mrgO b c = (bc, 0) ∧ (mrgO ab c).1.length ≤ 1000 ∧ (∀ W A1 d1, LF W A1 d1 ab → LF W C cc c → Calls Try.prog 25 #[.slice A1 ab.length d1, .slice C c.length cc] W (Out2 (mrgO ab c) W)) ∧ (∀ W A1 d1, LF W A ca a → LF W A1 d1 bc → Calls Try.prog 25 #[.slice A a.length ca, .slice A1 bc.length d1] W (Out2 (mrgO ab c) W))) := Lib.hid (by
    rcases mrgO_cases h2 h3 (by omega) with ⟨h, _⟩ | ⟨bc, h, _, _, hr⟩
    · exact .inl h
    · have hlen := mrgO_len ab c
      refine .inr ⟨bc, h, by omega, fun W A1 d1 k1 k2 => gMerge (by omega) (by omega) k1 k2, fun W A1 d1 k1 k2 => ?_⟩
      have := gMerge (by omega) (by omega) k1 k2
      rw [← mrgO_assoc h1 h2 h3 hm h (by omega)] at this
      exact this)
  have hbl : b.length ≤ 100000 := by omega
  clear h1 h2 h3 hm hmr hla hlb hlc hlab
  generalize mrgO b c = mo at *
  refine (callsIn_wide (n := 6)).1 ?_
  refine callsIn_of_wp_marks Try.func6 rfl trivial ?_ rfl
  simp only [Try.ntmps6, List.size_toArray, List.length_cons, List.length_nil, Nat.reduceAdd, Nat.reduceSub, Array.replicate_succ, Array.replicate_zero, List.push_toArray, List.append_toArray, List.nil_append, List.cons_append]
  gi_wp2_with fail
  refine ⟨trivial, ?_⟩
  with_reducible refine (callsIn_wide.2 (KG.out _ _ (by simp))).mono ?_
  rintro e w0_ ⟨rfl, rfl⟩
  gi_wp2_with fail
  refine ⟨trivial, ?_⟩
  with_reducible refine (callsIn_wide.2 (KV1.out _ LA.out)).mono ?_
  rintro e w1_ ⟨rfl, hb⟩
  have BR := Lib.hid (boxed_below BR.out hb)
  have LA := Lib.hid (LA.out.up hb)
  have LB := Lib.hid (LB.out.up hb)
  have LC := Lib.hid (LC.out.up hb)
  have BB := Lib.hid (BB.out.trans (hb.mono BB.out.size))
  clear hb
  gi_wp2_with fail
  refine ⟨trivial, ?_⟩
  with_reducible refine (callsIn_wide.2 (KV2.out _ LB.out)).mono ?_
  rintro e w2_ ⟨rfl, hb⟩
  have BR := Lib.hid (boxed_below BR.out hb)
  have LA := Lib.hid (LA.out.up hb)
  have LB := Lib.hid (LB.out.up hb)
  have LC := Lib.hid (LC.out.up hb)
  have BB := Lib.hid (BB.out.trans (hb.mono BB.out.size))
  clear hb
  gi_wp2_with fail
  refine ⟨trivial, ?_⟩
  with_reducible refine (callsIn_wide.2 (KV3.out _ LC.out)).mono ?_
  rintro e w3_ ⟨rfl, hb⟩
  have BR := Lib.hid (boxed_below BR.out hb)
  have LA := Lib.hid (LA.out.up hb)
  have LB := Lib.hid (LB.out.up hb)
  have LC := Lib.hid (LC.out.up hb)
  have BB := Lib.hid (BB.out.trans (hb.mono BB.out.size))
  clear hb
  gi_wp2_with fail
  refine ⟨trivial, ?_⟩
  with_reducible refine (callsIn_wide.2 (K1.out _ LA.out LB.out)).mono ?_
  rintro e w4_ ⟨Am, cm, rfl, hl, hb⟩
  have BR := Lib.hid (boxed_below BR.out hb)
  have LA := Lib.hid (LA.out.up hb)
  have LB := Lib.hid (LB.out.up hb)
  have LC := Lib.hid (LC.out.up hb)
  have BB := Lib.hid (BB.out.trans (hb.mono BB.out.size))
  clear hb
  have Lm := Lib.hid hl
  clear hl
  gi_wp2_with fail
  refine ⟨trivial, ?_⟩
  with_reducible refine (callsIn_wide.2 (K2.out _ LA.out LB.out)).mono ?_
  rintro e w5_ ⟨An, cn, rfl, hl, hb⟩
  have BR := Lib.hid (boxed_below BR.out hb)
  have LA := Lib.hid (LA.out.up hb)
  have LB := Lib.hid (LB.out.up hb)
  have LC := Lib.hid (LC.out.up hb)
  have Lm := Lib.hid (Lm.out.up hb)
  have BB := Lib.hid (BB.out.trans (hb.mono BB.out.size))
  clear hb
  have Ln := Lib.hid hl
  clear hl
  gi_wp2_with fail
  refine ⟨trivial, ?_⟩
  with_reducible refine (callsIn_wide.2 (K3.out _ LA.out)).mono ?_
  rintro e w6_ ⟨Aq, cq, rfl, hl, hb⟩
  have BR := Lib.hid (boxed_below BR.out hb)
  have LA := Lib.hid (LA.out.up hb)
  have LB := Lib.hid (LB.out.up hb)
  have LC := Lib.hid (LC.out.up hb)
  have Lm := Lib.hid (Lm.out.up hb)
  have Ln := Lib.hid (Ln.out.up hb)
  have BB := Lib.hid (BB.out.trans (hb.mono BB.out.size))
  clear hb
  have Lq := Lib.hid hl
  clear hl
  gi_wp2_with fail
  refine ⟨trivial, ?_⟩
  with_reducible refine (callsIn_wide.2 (KS.out _ _ _ _ _ _ habl.out Lm.out Ln.out)).mono ?_
  rintro e w7_ ⟨rfl, hb⟩
  have BR := Lib.hid (boxed_below BR.out hb)
  have LA := Lib.hid (LA.out.up hb)
  have LB := Lib.hid (LB.out.up hb)
  have LC := Lib.hid (LC.out.up hb)
  have Lm := Lib.hid (Lm.out.up hb)
  have Ln := Lib.hid (Ln.out.up hb)
  have Lq := Lib.hid (Lq.out.up hb)
  have BB := Lib.hid (BB.out.trans (hb.mono BB.out.size))
  clear hb
  gi_wp2_with fail
  refine ⟨trivial, ?_⟩
  with_reducible refine (callsIn_wide.2 (KS.out _ _ _ _ _ _ hal.out Lq.out LA.out)).mono ?_
  rintro e w8_ ⟨rfl, hb⟩
  have BR := Lib.hid (boxed_below BR.out hb)
  have LA := Lib.hid (LA.out.up hb)
  have LB := Lib.hid (LB.out.up hb)
  have LC := Lib.hid (LC.out.up hb)
  have Lm := Lib.hid (Lm.out.up hb)
  have Ln := Lib.hid (Ln.out.up hb)
  have Lq := Lib.hid (Lq.out.up hb)
  have BB := Lib.hid (BB.out.trans (hb.mono BB.out.size))
  clear hb
  clear Ln Lq
  gi_wp2_with fail
  refine ⟨trivial, ?_⟩
  refine (bw_in _ B b.length cb _).mono ?_
  rintro e w' ⟨rfl, rfl⟩
  gi_wp2_with fail
  have hbx : Boxed ((w8_.alloc (.cells #[.slice A a.length ca] 22)).alloc (.cells #[.slice B b.length cb] 22)) w8_.heap.size 22 (.slice A a.length ca) := (Boxed.new w8_ _ _).alloc _
  have hbl2 : ((w8_.alloc (.cells #[.slice A a.length ca] 22)).alloc (.cells #[.slice B b.length cb] 22)).cell? ⟨w8_.heap.size + 1, 0, none⟩ = some (.slice B b.length cb) := by go_simp
  have hBB : Below w8_.heap.size w8_ ((w8_.alloc (.cells #[.slice A a.length ca] 22)).alloc (.cells #[.slice B b.length cb] 22)) := ((Below.refl _ _).alloc (Nat.le_refl _) _).alloc (by simp) _
  have hz0 : ((w8_.alloc (.cells #[.slice A a.length ca] 22)).alloc (.cells #[.slice B b.length cb] 22)).heap.size = w8_.heap.size + 2 := by simp only [World.size_alloc]
  have hb0 : Hid (Below w8_.heap.size w8_ ((w8_.alloc (.cells #[.slice A a.length ca] 22)).alloc (.cells #[.slice B b.length cb] 22))) := Lib.hid hBB
  generalize ((w8_.alloc (.cells #[.slice A a.length ca] 22)).alloc (.cells #[.slice B b.length cb] 22)) = W0 at *
  obtain ⟨b1, ob, hLi, hlt1, hor⟩ := lies_new b B cb w8_ W0 (w8_.heap.size + 1) LB.out.ls hBB hbl2 (by omega)
  have ST := Lib.hid (bw_stops (fun x => x ∈ b) 5 (by omega) b1 (w8_.heap.size + 1) ob cb B b hbl (fun _ h => h) W0 hlt1 (by omega) hLi)
  have hne1 : b1 ≠ w8_.heap.size := by omega
  have KS1 : Hid (∀ W q, KK b1 (w8_.heap.size + 1) W (W.setCell ⟨w8_.heap.size, 0, none⟩ q)) := Lib.hid fun W q => ⟨by simp [World.setCell, Array.getElem?_modify, Ne.symm hne1], by simp [World.setCell, Array.getElem?_modify]⟩
  have KB : Hid (∀ W W', W0.heap.size ≤ W.heap.size → Below W.heap.size W W' → KK b1 (w8_.heap.size + 1) W W') := Lib.hid fun W W' hs hb => ⟨hb.block b1 (by omega), hb.block _ (by omega)⟩
  have hTV : w.heap.size < w8_.heap.size := BR.out.lt
  have hLA0 : LF W0 A ca a := LA.out.up hBB
  clear hLi hbl2 hBB
  refine wpIn_rangeFunc_ownH rfl (by omega) (gf := 47) (lb := #[.pointer (some ⟨w8_.heap.size + 1, 0, none⟩)]) rfl trivial (enters_of Try.func47 (by kernel_rfl) rfl)
    ST.out (fun h k => h.trans k) (fun W lq oq oq' hlq hq hc hw => KK.put (by omega) (by omega)) (Below.refl _ _) (fun _ => rfl)
    (fun pre W => (Below w8_.heap.size w8_ W ∧ W0.heap.size ≤ W.heap.size) ∧ ∃ A1 d1 all, Boxed W w8_.heap.size 22 (.slice A1 (all : List S).length d1) ∧ LF W A1 d1 all ∧ Adds a (valB pre).reverse all)
    (fun _ _ _ => False)
    (OwnFrom.and (OwnFrom.and (ownFrom_below (Nat.le_refl _) (by omega)) (fun s X Y row h hg hr => Nat.le_trans h hg.size)) (fun s X Y row h hg hr => by
      obtain ⟨A1, d1, all, k1, k2, k3⟩ := h
      exact ⟨A1, d1, all, Own.from (boxed_own (β := Unit) _ _ (fun _ => _)) _ () X Y row k1 hg hr, Own.from (lf_own (β := Unit) (fun _ => A1) (fun _ => d1) (fun _ => all)) _ () X Y row k2 hg hr, k3⟩))
    (fun c s A B row h hg hr => h)
    ⟨⟨hb0.out, Nat.le_refl _⟩, A, ca, a, hbx, hLA0, H0.out⟩
    (fun x a' W => ∃ Bx, w8_.heap.size + 1 < Bx ∧ W.heap[Bx]? = some (.cells #[.int .i64 x.1.2.1, .int .i64 x.1.2.2] 33 (0, 0)) ∧ a' = { tmps := #[Value.slice A a.length ca, Value.slice B b.length cb, Value.slice C c.length cc, undef, undef, undef, Value.pointer (some ⟨w.heap.size, 0, none⟩), Value.slice Am ab.length cm, Value.int IntKind.i64 0, Value.slice An ab.length cn, Value.int IntKind.i64 0, Value.slice Aq a.length cq, Value.int IntKind.i64 0, Value.pointer (some ⟨w8_.heap.size, 0, none⟩), undef, .pointer (some ⟨Bx, 0, none⟩), undef, undef, undef, undef, undef, undef, undef, undef, Value.slice A a.length ca, Value.slice B b.length cb, Value.slice C c.length cc, Value.slice (some ⟨w.heap.size + 1, 0, none⟩) 3 3, Value.bool false, Value.bool false, Value.slice A a.length ca, Value.bool true, Value.bool false, Value.bool false, Value.bool false, Value.slice B b.length cb, Value.bool true, Value.bool false, Value.bool false, Value.bool false, Value.slice C c.length cc, Value.bool true, Value.bool false, Value.bool false, undef, Value.tuple #[Value.slice Am ab.length cm, Value.int IntKind.i64 0], Value.slice A a.length ca, Value.slice B b.length cb, Value.tuple #[Value.slice Am ab.length cm, Value.int IntKind.i64 0], Value.slice Am ab.length cm, Value.int IntKind.i64 0, Value.tuple #[Value.slice An ab.length cn, Value.int IntKind.i64 0], Value.slice B b.length cb, Value.slice A a.length ca, Value.tuple #[Value.slice An ab.length cn, Value.int IntKind.i64 0], Value.slice An ab.length cn, Value.int IntKind.i64 0, Value.tuple #[Value.slice Aq a.length cq, Value.int IntKind.i64 0], Value.slice A a.length ca, Value.slice A a.length ca, Value.tuple #[Value.slice Aq a.length cq, Value.int IntKind.i64 0], Value.slice Aq a.length cq, Value.int IntKind.i64 0, Value.slice Am ab.length cm, Value.slice An ab.length cn, Value.bool true, Value.bool false, Value.bool false, Value.int IntKind.i64 0, Value.int IntKind.i64 0, Value.bool false, Value.bool false, Value.bool false, Value.slice Aq a.length cq, Value.slice A a.length ca, Value.bool true, Value.bool false, Value.bool false, Value.bool false, Value.int IntKind.i64 0, Value.bool false, Value.bool false, Value.int IntKind.i64 0, Value.bool false, undef, undef, undef, undef, undef, Value.slice A a.length ca, Value.slice B b.length cb, Value.func (Fn.func 47) #[] #[Value.pointer (some ⟨w8_.heap.size + 1, 0, none⟩)], .int .i64 x.1.1, .agg #[.int .i64 x.1.2.1, .int .i64 x.1.2.2], undef, undef, undef, undef, undef, undef, undef, undef, undef, undef, undef, undef, undef, undef, undef, undef, undef, undef, undef, undef, undef, undef, undef, undef, undef, undef, undef, undef, undef, undef, undef, undef, undef, undef, undef, undef, undef, undef, undef, undef, undef, undef, undef, undef, undef, undef, undef, undef, undef, undef, undef, undef, undef, undef], defers := [] })
    (fun x a' _ A B row hs hg hr => by
      obtain ⟨Bx, i1, i2, i3⟩ := hs
      exact ⟨Bx, i1, row_own (β := Unit) Bx _ (fun _ => _) () A B row i2 hg (fun r e => (hr r e).2), i3⟩)
    ?assign ?body ?done ?stop
  case assign =>
    rintro lc pre x W K ⟨⟨i1, i0⟩, A1, d1, all, i2, i3, i4⟩ hK
    have hle := i1.size
    gi_wp2
    refine hK _ _ ((KeepsOthers.alloc _ _).from _) ⟨Below.heap_alloc _ _ _ (by omega), Below.heap_alloc _ _ _ (by omega)⟩ ⟨⟨i1.alloc hle _, by simp; omega⟩, A1, d1, all, i2.alloc _, i3.up ((Below.refl _ _).alloc (Nat.le_refl _) _), i4⟩ ⟨W.heap.size, by omega, heap_alloc_new _ _, rfl⟩
  case body =>
    rintro lc pre x a' W hlc _ ⟨⟨i1, i0⟩, A1, d1, all, i2, i3, i4⟩ ⟨Bx, j1, j2, rfl⟩ hlt
    have hvs := valB_snoc pre x
    have hdl : (valB pre).reverse.length < b.length := by rw [List.length_reverse, valB_length]; exact hlt
    have hdm : ∀ z ∈ (valB pre).reverse, z ∈ b := fun z hz => by
      obtain ⟨q, _, rfl⟩ := List.mem_map.1 (List.mem_reverse.1 hz)
      exact q.2
    have hr := HR.out _ _ x.1.2 i4 hdm x.2 hdl
    have hall := HLEN.out _ _ i4 hdl
    have hrv : (valB (pre ++ [x])).reverse = x.1.2 :: (valB pre).reverse := by rw [hvs, List.reverse_append]; rfl
    rw [← hrv] at hr
    have HI := Lib.hid (KI.out W A1 d1 all x.1.2 hall i3)
    have HA4 := Lib.hid i4
    clear hvs hdl hdm hrv i4 hall
    generalize x.1.2 = y at *
    obtain ⟨u0, u1⟩ := cells2' j2
    have hcs := i2.cell
    have hfs := i2.frozen
    have hle := i1.size
    rcases hr with ⟨hr1, hr2⟩ | ⟨hr1, hr2⟩
    · rw [hr1] at HI
      have HI2 := Lib.hid (CallsIn.inRound lc (callsIn_wide.2 HI.out : CallsIn Fence.wide 3 _ _ _ _ _))
      have HA2 := Lib.hid hr2
      clear hr1 hr2 HI
      gi_wp2_with fail
      refine ⟨trivial, ?_⟩
      with_reducible refine (HI2.out).mono ?_
      rintro e W5 ⟨A5, d5, rfl, hl5, hb5⟩
      gi_wp2
      exact ⟨(keeps_below hb5).from _, KB.out _ _ i0 hb5, ⟨i1.trans (hb5.mono hle), Nat.le_trans i0 hb5.size⟩, A1, d1, all, boxed_below i2 hb5, i3.up hb5, HA2.out⟩
    · rw [hr1] at HI
      have HI2 := Lib.hid (CallsIn.inRound lc (callsIn_wide.2 HI.out : CallsIn Fence.wide 3 _ _ _ _ _))
      have HA2 := Lib.hid hr2
      clear hr1 hr2 HI
      generalize insL all y = next at *
      gi_wp2_with fail
      refine ⟨trivial, ?_⟩
      with_reducible refine (HI2.out).mono ?_
      rintro e W5 ⟨A5, d5, rfl, hl5, hb5⟩
      have k2 := boxed_below i2 hb5
      have hc5 := k2.cell
      have hf5 := k2.frozen
      have HK2 : Hid (Boxed (W5.setCell ⟨w8_.heap.size, 0, none⟩ (.slice A5 next.length d5)) w8_.heap.size 22 (.slice A5 next.length d5)) := Lib.hid (k2.set _)
      have HB5 := Lib.hid hb5
      have HL5 : Hid (LF (W5.setCell ⟨w8_.heap.size, 0, none⟩ (.slice A5 next.length d5)) A5 d5 next) := Lib.hid (by
        refine ⟨fun hne => ?_, hl5.le, hl5.max, hl5.af⟩
        obtain ⟨bb, off, e, hbb, hc⟩ := hl5.ls hne
        have hnb : bb ≠ w8_.heap.size := by
          rintro rfl
          have h2 := (hc 0 (List.length_pos_iff.2 hne)).1
          have h3 := (hc 0 (List.length_pos_iff.2 hne)).2
          simp only [World.cell?, show W5.heap[_]? = _ from k2] at h3
          simp at h3
        exact ⟨bb, off, e, by simpa using hbb, fun j hj => ⟨(World.cell?_setCell_other W5 _ _ _ (by simp)).trans (hc j hj).1, (World.cell?_setCell_other W5 _ _ _ (by simp)).trans (hc j hj).2⟩⟩)
      clear hb5 k2 hcs hfs u0 u1 hl5
      gi_wp2
      have hs5 := HB5.out.size
      exact ⟨((keeps_below HB5.out).trans (KeepsOthers.setCell _ _ _)).from _, (KB.out _ _ i0 HB5.out).trans (KS1.out _ _), ⟨(i1.trans (HB5.out.mono hle)).setCell (p := ⟨w8_.heap.size, 0, none⟩) (Nat.le_refl _) _, by simp; omega⟩, A5, d5, next, HK2.out, HL5.out, HA2.out⟩
  case done =>
    rintro D zs W hD hzs ⟨⟨i1, i0⟩, A1, d1, all, i2, i3, i4⟩ hK
    obtain rfl := HALL.out _ _ i4 (fun z => by rw [hzs, List.reverse_reverse])
    have LA := Lib.hid (LA.out.up i1)
    have LB := Lib.hid (LB.out.up i1)
    have LC := Lib.hid (LC.out.up i1)
    have Lm := Lib.hid (Lm.out.up i1)
    have Lt := Lib.hid i3
    have BR := Lib.hid (boxed_below BR.out i1)
    have BT := Lib.hid i2
    have HK := Lib.hid hK
    have BB := Lib.hid (BB.out.trans (i1.mono BB.out.size))
    have hDw : w.heap.size ≤ D := by omega
    clear i1 i0 i2 i3 i4 hK hzs H0 HALL HLEN HR KI
    rcases HM.out with rfl | ⟨bc, rfl, hml, KP, KQ⟩
    · have t1 := BT.out.cell
      gi_wp2_with fail
      refine ⟨trivial, ?_⟩
      with_reducible refine (callsIn_wide.2 (K4.out _ LB.out LC.out)).mono ?_
      rintro e w9_ ⟨Au, cu, rfl, hl, hb⟩
      have BR := Lib.hid (boxed_below BR.out hb)
      have BT := Lib.hid (boxed_below BT.out hb)
      have HK := Lib.hid (def_up HK.out hb)
      have LA := Lib.hid (LA.out.up hb)
      have LB := Lib.hid (LB.out.up hb)
      have LC := Lib.hid (LC.out.up hb)
      have Lm := Lib.hid (Lm.out.up hb)
      have Lt := Lib.hid (Lt.out.up hb)
      have BB := Lib.hid (BB.out.trans (hb.mono BB.out.size))
      clear hb
      have Lu := Lib.hid hl
      clear hl
      clear t1
      have t1 := BT.out.cell
      gi_wp2_with fail
      refine ⟨trivial, ?_⟩
      with_reducible refine (callsIn_wide.2 (KS.out _ _ _ _ _ _ habl.out Lt.out Lm.out)).mono ?_
      rintro e w10_ ⟨rfl, hb⟩
      have BR := Lib.hid (boxed_below BR.out hb)
      have BT := Lib.hid (boxed_below BT.out hb)
      have HK := Lib.hid (def_up HK.out hb)
      have LA := Lib.hid (LA.out.up hb)
      have LB := Lib.hid (LB.out.up hb)
      have LC := Lib.hid (LC.out.up hb)
      have Lm := Lib.hid (Lm.out.up hb)
      have Lt := Lib.hid (Lt.out.up hb)
      have Lu := Lib.hid (Lu.out.up hb)
      have BB := Lib.hid (BB.out.trans (hb.mono BB.out.size))
      clear hb
      clear t1
      have t1 := BT.out.cell
      gi_wp2_with fail
      refine ⟨trivial, ?_⟩
      with_reducible refine (callsIn_wide.2 (KS.out _ _ _ _ _ _ habl.out Lt.out Lm.out)).mono ?_
      rintro e w11_ ⟨rfl, hb⟩
      have BR := Lib.hid (boxed_below BR.out hb)
      have BT := Lib.hid (boxed_below BT.out hb)
      have HK := Lib.hid (def_up HK.out hb)
      have LA := Lib.hid (LA.out.up hb)
      have LB := Lib.hid (LB.out.up hb)
      have LC := Lib.hid (LC.out.up hb)
      have Lm := Lib.hid (Lm.out.up hb)
      have Lt := Lib.hid (Lt.out.up hb)
      have Lu := Lib.hid (Lu.out.up hb)
      have BB := Lib.hid (BB.out.trans (hb.mono BB.out.size))
      clear hb
      clear t1
      have t1 := BT.out.cell
      gi_wp2_with fail
      refine ⟨trivial, ?_⟩
      with_reducible refine (callsIn_wide.2 (KA.out _)).mono ?_
      clear t1
      rintro e wz ⟨rfl, hb⟩
      have BR := Lib.hid (boxed_below BR.out hb)
      have BT := Lib.hid (boxed_below BT.out hb)
      have HK := Lib.hid (def_up HK.out hb)
      have BB := Lib.hid (BB.out.trans (hb.mono BB.out.size))
      clear hb
      have r1 := BR.out.cell
      have r2 := BR.out.frozen
      have hK' := (KeepsOthers.setCell wz ⟨w.heap.size, 0, none⟩ (.bool true)).same D _ HK.out rfl
      have r3 := cell_kept (Boxed.set (.bool true) BR.out).cell (grownBy_putObj' _ D (.deferred none)) (fun r e => by cases e; exact ⟨_, hK', rfl⟩)
      gi_wp2
      refine ⟨by simp, .inl ⟨_, _, rfl, run_takeDeferred hK', ?_⟩⟩
      refine ⟨.bool true, by simp [results, Try.f6, go_sem, r3], rfl, (BB.out.setCell (p := ⟨w.heap.size, 0, none⟩) (Nat.le_refl _) _).trans (belowK_b (w := w) (Nat.le_refl _) _ D _ _ hDw hK' rfl rfl)⟩
    · have KP := Lib.hid KP
      have KQ := Lib.hid KQ
      have hml := Lib.hid hml
      generalize mrgO all c = ml at *
      have t1 := BT.out.cell
      gi_wp2_with fail
      refine ⟨trivial, ?_⟩
      with_reducible refine (callsIn_wide.2 (K4.out _ LB.out LC.out)).mono ?_
      rintro e w9_ ⟨Au, cu, rfl, hl, hb⟩
      have BR := Lib.hid (boxed_below BR.out hb)
      have BT := Lib.hid (boxed_below BT.out hb)
      have HK := Lib.hid (def_up HK.out hb)
      have LA := Lib.hid (LA.out.up hb)
      have LB := Lib.hid (LB.out.up hb)
      have LC := Lib.hid (LC.out.up hb)
      have Lm := Lib.hid (Lm.out.up hb)
      have Lt := Lib.hid (Lt.out.up hb)
      have BB := Lib.hid (BB.out.trans (hb.mono BB.out.size))
      clear hb
      have Lu := Lib.hid hl
      clear hl
      clear t1
      have t1 := BT.out.cell
      gi_wp2_with fail
      refine ⟨trivial, ?_⟩
      with_reducible refine (callsIn_wide.2 (KS.out _ _ _ _ _ _ habl.out Lt.out Lm.out)).mono ?_
      rintro e w10_ ⟨rfl, hb⟩
      have BR := Lib.hid (boxed_below BR.out hb)
      have BT := Lib.hid (boxed_below BT.out hb)
      have HK := Lib.hid (def_up HK.out hb)
      have LA := Lib.hid (LA.out.up hb)
      have LB := Lib.hid (LB.out.up hb)
      have LC := Lib.hid (LC.out.up hb)
      have Lm := Lib.hid (Lm.out.up hb)
      have Lt := Lib.hid (Lt.out.up hb)
      have Lu := Lib.hid (Lu.out.up hb)
      have BB := Lib.hid (BB.out.trans (hb.mono BB.out.size))
      clear hb
      clear t1
      have t1 := BT.out.cell
      gi_wp2_with fail
      refine ⟨trivial, ?_⟩
      with_reducible refine (callsIn_wide.2 (KP.out _ _ _ Lm.out LC.out)).mono ?_
      rintro e w11_ ⟨Ax, cx, rfl, hl, hb⟩
      have BR := Lib.hid (boxed_below BR.out hb)
      have BT := Lib.hid (boxed_below BT.out hb)
      have HK := Lib.hid (def_up HK.out hb)
      have LA := Lib.hid (LA.out.up hb)
      have LB := Lib.hid (LB.out.up hb)
      have LC := Lib.hid (LC.out.up hb)
      have Lm := Lib.hid (Lm.out.up hb)
      have Lt := Lib.hid (Lt.out.up hb)
      have Lu := Lib.hid (Lu.out.up hb)
      have BB := Lib.hid (BB.out.trans (hb.mono BB.out.size))
      clear hb
      have Lx := Lib.hid hl
      clear hl
      clear t1
      have t1 := BT.out.cell
      gi_wp2_with fail
      refine ⟨trivial, ?_⟩
      with_reducible refine (callsIn_wide.2 (KQ.out _ _ _ LA.out Lu.out)).mono ?_
      rintro e w12_ ⟨Ay, cy, rfl, hl, hb⟩
      have BR := Lib.hid (boxed_below BR.out hb)
      have BT := Lib.hid (boxed_below BT.out hb)
      have HK := Lib.hid (def_up HK.out hb)
      have LA := Lib.hid (LA.out.up hb)
      have LB := Lib.hid (LB.out.up hb)
      have LC := Lib.hid (LC.out.up hb)
      have Lm := Lib.hid (Lm.out.up hb)
      have Lt := Lib.hid (Lt.out.up hb)
      have Lu := Lib.hid (Lu.out.up hb)
      have Lx := Lib.hid (Lx.out.up hb)
      have BB := Lib.hid (BB.out.trans (hb.mono BB.out.size))
      clear hb
      have Ly := Lib.hid hl
      clear hl
      clear t1
      have t1 := BT.out.cell
      gi_wp2_with fail
      refine ⟨trivial, ?_⟩
      with_reducible refine (callsIn_wide.2 (KS.out _ _ _ _ _ _ hml.out Lx.out Ly.out)).mono ?_
      rintro e w13_ ⟨rfl, hb⟩
      have BR := Lib.hid (boxed_below BR.out hb)
      have BT := Lib.hid (boxed_below BT.out hb)
      have HK := Lib.hid (def_up HK.out hb)
      have LA := Lib.hid (LA.out.up hb)
      have LB := Lib.hid (LB.out.up hb)
      have LC := Lib.hid (LC.out.up hb)
      have Lm := Lib.hid (Lm.out.up hb)
      have Lt := Lib.hid (Lt.out.up hb)
      have Lu := Lib.hid (Lu.out.up hb)
      have Lx := Lib.hid (Lx.out.up hb)
      have Ly := Lib.hid (Ly.out.up hb)
      have BB := Lib.hid (BB.out.trans (hb.mono BB.out.size))
      clear hb
      clear t1
      have t1 := BT.out.cell
      gi_wp2_with fail
      refine ⟨trivial, ?_⟩
      with_reducible refine (callsIn_wide.2 (KA.out _)).mono ?_
      clear t1
      rintro e wz ⟨rfl, hb⟩
      have BR := Lib.hid (boxed_below BR.out hb)
      have BT := Lib.hid (boxed_below BT.out hb)
      have HK := Lib.hid (def_up HK.out hb)
      have BB := Lib.hid (BB.out.trans (hb.mono BB.out.size))
      clear hb
      have r1 := BR.out.cell
      have r2 := BR.out.frozen
      have hK' := (KeepsOthers.setCell wz ⟨w.heap.size, 0, none⟩ (.bool true)).same D _ HK.out rfl
      have r3 := cell_kept (Boxed.set (.bool true) BR.out).cell (grownBy_putObj' _ D (.deferred none)) (fun r e => by cases e; exact ⟨_, hK', rfl⟩)
      gi_wp2
      refine ⟨by simp, .inl ⟨_, _, rfl, run_takeDeferred hK', ?_⟩⟩
      refine ⟨.bool true, by simp [results, Try.f6, go_sem, r3], rfl, (BB.out.setCell (p := ⟨w.heap.size, 0, none⟩) (Nat.le_refl _) _).trans (belowK_b (w := w) (Nat.le_refl _) _ D _ _ hDw hK' rfl rfl)⟩
  case stop =>
    rintro D c pre W hD hS h hK
    exact h.elim
end
theorem merge_walk (A : Option Addr) (ca : Nat) (a : List S) (B : Option Addr) (cb : Nat) (b : List S) (C : Option Addr) (cc : Nat) (c : List S) (w : World) (hA : LF w A ca a) (hB : LF w B cb b) (hC : LF w C cc c) :
    Calls Try.prog 6 #[.slice A a.length ca, .slice B b.length cb, .slice C c.length cc] w fun e w' => e = .returned (.bool true) ∧ Below w.heap.size w w' := by
  cases hg : (greatL a || (greatL b || greatL c)) with
  | true => exact merge_great hA hB hC hg
  | false =>
    have hg' := hg
    rw [Bool.or_eq_false_iff, Bool.or_eq_false_iff] at hg'
    have hla := not_great hg'.1
    have hlb := not_great hg'.2.1
    have hlc := not_great hg'.2.2
    by_cases hi : chk 1 a ≠ 0 ∨ chk 1 b ≠ 0 ∨ chk 1 c ≠ 0
    · exact merge_invalid hA hB hC hg hla hlb hlc hi
    · rcases mrgO_cases (show chk 1 a = 0 by omega) (show chk 1 b = 0 by omega) (by omega) with ⟨h, _⟩ | ⟨ab, h, hr, _, hl⟩
      · exact merge_clash hA hB hC hg hla hlb hlc (by omega) (by omega) (by omega) h
      · exact merge_main hA hB hC hg hla hlb hlc (by omega) (by omega) (by omega) ab h hr (by omega)
end Go.Proofs.Ytobipbedkkmlcaa.Sr
