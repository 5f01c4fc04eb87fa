/- Layer 11: SeriesInsert. -/
import Derived.Test.YtobipbedkkmlcaaLd
set_option maxRecDepth 100000
set_option linter.unusedVariables false
set_option linter.unusedSimpArgs false
namespace Go.Proofs.Ytobipbedkkmlcaa.Sr
open Go.RowKit
theorem ins_bad (l : List S) (x : S) : (∃ n : Nat, insO l x = ([], n) ∧ n ≠ 0) ∨ (insO l x = (insL l x, 0) ∧ chk 1 l = 0 ∧ okS x = true ∧ hit l x.1 = none ∧ l.length < 2000) := by
  rcases insO_cases l x with ⟨h1, h2⟩ | h
  · exact .inl ⟨(insO l x).2, Prod.ext h1 rfl, h2⟩
  · exact .inr h
set_option maxHeartbeats 8000000 in
theorem insert_walk (A : Option Addr) (c : Nat) (l : List S) (x y : S) (w : World) (hA : LF w A c l) :
    Calls Try.prog 5 #[.slice A l.length c, .agg #[.int .i64 x.1, .int .i64 x.2], .agg #[.int .i64 y.1, .int .i64 y.2]] w fun e w' => e = .returned (.bool true) ∧ Below w.heap.size w w' := by
  have KA := Lib.hid awake_any
  have KG := Lib.hid (fun g w (h : g = w.heap.size) => great1_any A c l g w h)
  have B0 : Hid (∀ o1 o2 o3, Below w.heap.size w (((w.alloc o1).alloc o2).alloc o3)) := Lib.hid fun o1 o2 o3 => (((Below.refl _ _).alloc (Nat.le_refl _) _).alloc (by simp) _).alloc (by simp; omega) _
  have BB := Lib.hid (B0.out (.cells #[.int .i64 x.1, .int .i64 x.2] 33) (.cells #[.int .i64 y.1, .int .i64 y.2] 33) (.cells #[.slice A l.length c] 22))
  cases hg : greatL l with
  | true =>
    rw [hg] at KG
    clear hA hg
    go_enter Try.func5, Try.ntmps5
    go_wp2_with fail
    with_reducible refine (KG.out _ _ (by simp)).mono ?_
    rintro e w0_ ⟨rfl, rfl⟩
    go_wp2_with fail
    with_reducible refine (KA.out _).mono ?_
    rintro e wz ⟨rfl, hb⟩
    have BB := Lib.hid (BB.out.trans (hb.mono BB.out.size))
    clear hb
    go_wp2
    go_ret
    exact ⟨rfl, BB.out⟩
  | false =>
    rw [hg] at KG
    have hl := not_great hg
    have LA := Lib.hid (hA.up BB.out)
    have BX : Hid (Box2 (((w.alloc (.cells #[.int .i64 x.1, .int .i64 x.2] 33)).alloc (.cells #[.int .i64 y.1, .int .i64 y.2] 33)).alloc (.cells #[.slice A l.length c] 22)) w.heap.size x) := Lib.hid ⟨by go_simp, by go_simp, by simp; omega⟩
    have BY : Hid (Box2 (((w.alloc (.cells #[.int .i64 x.1, .int .i64 x.2] 33)).alloc (.cells #[.int .i64 y.1, .int .i64 y.2] 33)).alloc (.cells #[.slice A l.length c] 22)) (w.heap.size + 1) y) := Lib.hid ⟨by go_simp, by go_simp, by simp⟩
    clear hA hg
    have KS : Hid (∀ W A1 d1 A2 d2 (l : List S), l.length ≤ 1000 → LF W A1 d1 l → LF W A2 d2 l → Calls Try.prog 14 #[.slice A1 l.length d1, .slice A2 l.length d2] W fun e w' => e = .returned (.bool true) ∧ Below W.heap.size W w') := Lib.hid fun W A1 d1 A2 d2 l hl h k => gSameT hl h k
    rcases ins_bad l x with ⟨n, hn, hn0⟩ | ⟨hi, h1, h2, h3, h4⟩
    · have K1 : Hid (∀ W, LF W A c l → Calls Try.prog 21 #[.slice A l.length c, .agg #[.int .i64 x.1, .int .i64 x.2]] W (Out2 ([], n) W)) := Lib.hid fun W h => by
        have := gInsert x (by omega) h
        rw [hn] at this
        exact this
      have hne : ((n : Int) != 0) = true := by simpa using hn0
      have hne2 : (n != 0) = true := by simpa using hn0
      clear hn
      go_enter Try.func5, Try.ntmps5
      go_wp2_with fail
      with_reducible refine (KG.out _ _ (by simp)).mono ?_
      rintro e w0_ ⟨rfl, rfl⟩
      have X1 := BX.out.c1
      have X2 := BX.out.c2
      have X3 := BX.out.lt
      have Y1 := BY.out.c1
      have Y2 := BY.out.c2
      have Y3 := BY.out.lt
      go_wp2_with fail
      with_reducible refine (K1.out _ LA.out).mono ?_
      clear X1 X2 X3 Y1 Y2 Y3
      rintro e w1_ ⟨Ai, ci, rfl, hl, hb⟩
      have BX := Lib.hid (BX.out.up hb)
      have BY := Lib.hid (BY.out.up hb)
      have LA := Lib.hid (LA.out.up hb)
      have BB := Lib.hid (BB.out.trans (hb.mono BB.out.size))
      clear hb
      have Li := Lib.hid hl
      clear hl
      have X1 := BX.out.c1
      have X2 := BX.out.c2
      have X3 := BX.out.lt
      have Y1 := BY.out.c1
      have Y2 := BY.out.c2
      have Y3 := BY.out.lt
      go_wp2_with fail
      with_reducible refine (KA.out _).mono ?_
      clear X1 X2 X3 Y1 Y2 Y3
      rintro e wz ⟨rfl, hb⟩
      have BB := Lib.hid (BB.out.trans (hb.mono BB.out.size))
      clear hb
      go_wp2
      go_ret
      exact ⟨rfl, BB.out⟩
    · have hok := chk_ins h1 h2 h3 h4
      have hasc := chk_asc h1
      have hlen := ins_len l x
      have K1 : Hid (∀ W, LF W A c l → Calls Try.prog 21 #[.slice A l.length c, .agg #[.int .i64 x.1, .int .i64 x.2]] W (Out2 (insL l x, 0) W)) := Lib.hid fun W h => by
        have := gInsert x (by omega) h
        rw [hi] at this
        exact this
      have K2 : Hid (∀ W A1 d1, LF W A1 d1 (insL l x) → Calls Try.prog 23 #[.slice A1 (insL l x).length d1, .int .i64 x.1] W (Out2 (l, 0) W)) := Lib.hid fun W A1 d1 h => by
        have := gRemove x.1 (by omega) h
        rw [remO_ins h1 h2 h3 h4] at this
        exact this
      have K3 : Hid (∀ W A1 d1, LF W A1 d1 (insL l x) → Calls Try.prog 21 #[.slice A1 (insL l x).length d1, .agg #[.int .i64 x.1, .int .i64 x.2]] W (Out2 ([], 6) W)) := Lib.hid fun W A1 d1 h => by
        have := gInsert x (by omega) h
        rw [insO_exists hok h2 (hit_ins hasc h3)] at this
        exact this
      have K4 : Hid (∀ W A1 d1, LF W A1 d1 (insL l x) → Calls Try.prog 27 #[.slice A1 (insL l x).length d1, .agg #[.int .i64 x.1, .int .i64 x.2]] W fun e w' => e = .returned (.bool true) ∧ Below W.heap.size W w') := Lib.hid fun W A1 d1 h => con_any x (by omega) (ins_mem.2 (.inl rfl)) h
      have K5 : Hid (∀ W A1 d1, LF W A1 d1 (insL l x) → Calls Try.prog 12 #[.int .i64 1, .slice A1 (insL l x).length d1] W fun e w' => e = .returned (.int .i64 0) ∧ Below W.heap.size W w') := Lib.hid fun W A1 d1 h => by
        have := gCheck 1 (by omega) h
        rw [hok] at this
        exact this
      have hadd : (((insL l x).length : Int) != wrap64 ((l.length : Int) + 1)) = false := by
        rw [hlen]
        unfold wrap64
        simp
        omega
      have hadd2 : (((insL l x).length : Int) != (l.length : Int) + 1) = false := by
        rw [hlen]
        simp
      have HL : Hid (l.length ≤ 1000) := Lib.hid (by omega)
      have HOK := Lib.hid hok
      have HLEN := Lib.hid hlen
      have HASC := Lib.hid hasc
      have H123 := Lib.hid (And.intro h1 (And.intro h2 (And.intro h3 h4)))
      clear hi hok hasc hlen h1 h2 h3 h4
      rcases ins_bad l y with ⟨n, hn, hn0⟩ | ⟨hi, g1, g2, g3, g4⟩
      · have K6 : Hid (∀ W, LF W A c l → Calls Try.prog 21 #[.slice A l.length c, .agg #[.int .i64 y.1, .int .i64 y.2]] W (Out2 ([], n) W)) := Lib.hid fun W h => by
          have := gInsert y HL.out h
          rw [hn] at this
          exact this
        have hne : ((n : Int) != 0) = true := by simpa using hn0
        have hne2 : (n != 0) = true := by simpa using hn0
        clear hn
        generalize insL l x = a at *
        go_enter Try.func5, Try.ntmps5
        go_wp2_with fail
        with_reducible refine (KG.out _ _ (by simp)).mono ?_
        rintro e w0_ ⟨rfl, rfl⟩
        have X1 := BX.out.c1
        have X2 := BX.out.c2
        have X3 := BX.out.lt
        have Y1 := BY.out.c1
        have Y2 := BY.out.c2
        have Y3 := BY.out.lt
        go_wp2_with fail
        with_reducible refine (K1.out _ LA.out).mono ?_
        clear X1 X2 X3 Y1 Y2 Y3
        rintro e w1_ ⟨Aa, ca, rfl, hl, hb⟩
        have BX := Lib.hid (BX.out.up hb)
        have BY := Lib.hid (BY.out.up hb)
        have LA := Lib.hid (LA.out.up hb)
        have BB := Lib.hid (BB.out.trans (hb.mono BB.out.size))
        clear hb
        have La := Lib.hid hl
        clear hl
        have X1 := BX.out.c1
        have X2 := BX.out.c2
        have X3 := BX.out.lt
        have Y1 := BY.out.c1
        have Y2 := BY.out.c2
        have Y3 := BY.out.lt
        go_wp2_with fail
        with_reducible refine (K2.out _ _ _ La.out).mono ?_
        clear X1 X2 X3 Y1 Y2 Y3
        rintro e w2_ ⟨Ab, cb, rfl, hl, hb⟩
        have BX := Lib.hid (BX.out.up hb)
        have BY := Lib.hid (BY.out.up hb)
        have LA := Lib.hid (LA.out.up hb)
        have La := Lib.hid (La.out.up hb)
        have BB := Lib.hid (BB.out.trans (hb.mono BB.out.size))
        clear hb
        have Lb := Lib.hid hl
        clear hl
        have X1 := BX.out.c1
        have X2 := BX.out.c2
        have X3 := BX.out.lt
        have Y1 := BY.out.c1
        have Y2 := BY.out.c2
        have Y3 := BY.out.lt
        go_wp2_with fail
        with_reducible refine (K3.out _ _ _ La.out).mono ?_
        clear X1 X2 X3 Y1 Y2 Y3
        rintro e w3_ ⟨Ag, cg, rfl, hl, hb⟩
        have BX := Lib.hid (BX.out.up hb)
        have BY := Lib.hid (BY.out.up hb)
        have LA := Lib.hid (LA.out.up hb)
        have La := Lib.hid (La.out.up hb)
        have Lb := Lib.hid (Lb.out.up hb)
        have BB := Lib.hid (BB.out.trans (hb.mono BB.out.size))
        clear hb
        have Lg := Lib.hid hl
        clear hl
        have X1 := BX.out.c1
        have X2 := BX.out.c2
        have X3 := BX.out.lt
        have Y1 := BY.out.c1
        have Y2 := BY.out.c2
        have Y3 := BY.out.lt
        go_wp2_with fail
        with_reducible refine (K4.out _ _ _ La.out).mono ?_
        clear X1 X2 X3 Y1 Y2 Y3
        rintro e w4_ ⟨rfl, hb⟩
        have BX := Lib.hid (BX.out.up hb)
        have BY := Lib.hid (BY.out.up hb)
        have LA := Lib.hid (LA.out.up hb)
        have La := Lib.hid (La.out.up hb)
        have Lb := Lib.hid (Lb.out.up hb)
        have Lg := Lib.hid (Lg.out.up hb)
        have BB := Lib.hid (BB.out.trans (hb.mono BB.out.size))
        clear hb
        have X1 := BX.out.c1
        have X2 := BX.out.c2
        have X3 := BX.out.lt
        have Y1 := BY.out.c1
        have Y2 := BY.out.c2
        have Y3 := BY.out.lt
        go_wp2_with fail
        with_reducible refine (K5.out _ _ _ La.out).mono ?_
        clear X1 X2 X3 Y1 Y2 Y3
        rintro e w5_ ⟨rfl, hb⟩
        have BX := Lib.hid (BX.out.up hb)
        have BY := Lib.hid (BY.out.up hb)
        have LA := Lib.hid (LA.out.up hb)
        have La := Lib.hid (La.out.up hb)
        have Lb := Lib.hid (Lb.out.up hb)
        have Lg := Lib.hid (Lg.out.up hb)
        have BB := Lib.hid (BB.out.trans (hb.mono BB.out.size))
        clear hb
        have X1 := BX.out.c1
        have X2 := BX.out.c2
        have X3 := BX.out.lt
        have Y1 := BY.out.c1
        have Y2 := BY.out.c2
        have Y3 := BY.out.lt
        go_wp2_with fail
        with_reducible refine (KS.out _ _ _ _ _ _ HL.out Lb.out LA.out).mono ?_
        clear X1 X2 X3 Y1 Y2 Y3
        rintro e w6_ ⟨rfl, hb⟩
        have BX := Lib.hid (BX.out.up hb)
        have BY := Lib.hid (BY.out.up hb)
        have LA := Lib.hid (LA.out.up hb)
        have La := Lib.hid (La.out.up hb)
        have Lb := Lib.hid (Lb.out.up hb)
        have Lg := Lib.hid (Lg.out.up hb)
        have BB := Lib.hid (BB.out.trans (hb.mono BB.out.size))
        clear hb
        have X1 := BX.out.c1
        have X2 := BX.out.c2
        have X3 := BX.out.lt
        have Y1 := BY.out.c1
        have Y2 := BY.out.c2
        have Y3 := BY.out.lt
        go_wp2_with fail
        with_reducible refine (K6.out _ LA.out).mono ?_
        clear X1 X2 X3 Y1 Y2 Y3
        rintro e w7_ ⟨Ac, cc, rfl, hl, hb⟩
        have BX := Lib.hid (BX.out.up hb)
        have BY := Lib.hid (BY.out.up hb)
        have LA := Lib.hid (LA.out.up hb)
        have La := Lib.hid (La.out.up hb)
        have BB := Lib.hid (BB.out.trans (hb.mono BB.out.size))
        clear hb
        have Lc := Lib.hid hl
        clear hl
        have X1 := BX.out.c1
        have X2 := BX.out.c2
        have X3 := BX.out.lt
        have Y1 := BY.out.c1
        have Y2 := BY.out.c2
        have Y3 := BY.out.lt
        go_wp2_with fail
        with_reducible refine (KA.out _).mono ?_
        clear X1 X2 X3 Y1 Y2 Y3
        rintro e wz ⟨rfl, hb⟩
        have BB := Lib.hid (BB.out.trans (hb.mono BB.out.size))
        clear hb
        go_wp2
        go_ret
        exact ⟨rfl, BB.out⟩
      · have K6 : Hid (∀ W, LF W A c l → Calls Try.prog 21 #[.slice A l.length c, .agg #[.int .i64 y.1, .int .i64 y.2]] W (Out2 (insL l y, 0) W)) := Lib.hid fun W h => by
          have := gInsert y HL.out h
          rw [hi] at this
          exact this
        by_cases ht : x.1 = y.1
        · have hte : (x.1 == y.1) = true := by simpa using ht
          clear ht
          generalize insL l x = a at *
          generalize insL l y = d at *
          go_enter Try.func5, Try.ntmps5
          go_wp2_with fail
          with_reducible refine (KG.out _ _ (by simp)).mono ?_
          rintro e w0_ ⟨rfl, rfl⟩
          have X1 := BX.out.c1
          have X2 := BX.out.c2
          have X3 := BX.out.lt
          have Y1 := BY.out.c1
          have Y2 := BY.out.c2
          have Y3 := BY.out.lt
          go_wp2_with fail
          with_reducible refine (K1.out _ LA.out).mono ?_
          clear X1 X2 X3 Y1 Y2 Y3
          rintro e w1_ ⟨Aa, ca, rfl, hl, hb⟩
          have BX := Lib.hid (BX.out.up hb)
          have BY := Lib.hid (BY.out.up hb)
          have LA := Lib.hid (LA.out.up hb)
          have BB := Lib.hid (BB.out.trans (hb.mono BB.out.size))
          clear hb
          have La := Lib.hid hl
          clear hl
          have X1 := BX.out.c1
          have X2 := BX.out.c2
          have X3 := BX.out.lt
          have Y1 := BY.out.c1
          have Y2 := BY.out.c2
          have Y3 := BY.out.lt
          go_wp2_with fail
          with_reducible refine (K2.out _ _ _ La.out).mono ?_
          clear X1 X2 X3 Y1 Y2 Y3
          rintro e w2_ ⟨Ab, cb, rfl, hl, hb⟩
          have BX := Lib.hid (BX.out.up hb)
          have BY := Lib.hid (BY.out.up hb)
          have LA := Lib.hid (LA.out.up hb)
          have La := Lib.hid (La.out.up hb)
          have BB := Lib.hid (BB.out.trans (hb.mono BB.out.size))
          clear hb
          have Lb := Lib.hid hl
          clear hl
          have X1 := BX.out.c1
          have X2 := BX.out.c2
          have X3 := BX.out.lt
          have Y1 := BY.out.c1
          have Y2 := BY.out.c2
          have Y3 := BY.out.lt
          go_wp2_with fail
          with_reducible refine (K3.out _ _ _ La.out).mono ?_
          clear X1 X2 X3 Y1 Y2 Y3
          rintro e w3_ ⟨Ag, cg, rfl, hl, hb⟩
          have BX := Lib.hid (BX.out.up hb)
          have BY := Lib.hid (BY.out.up hb)
          have LA := Lib.hid (LA.out.up hb)
          have La := Lib.hid (La.out.up hb)
          have Lb := Lib.hid (Lb.out.up hb)
          have BB := Lib.hid (BB.out.trans (hb.mono BB.out.size))
          clear hb
          have Lg := Lib.hid hl
          clear hl
          have X1 := BX.out.c1
          have X2 := BX.out.c2
          have X3 := BX.out.lt
          have Y1 := BY.out.c1
          have Y2 := BY.out.c2
          have Y3 := BY.out.lt
          go_wp2_with fail
          with_reducible refine (K4.out _ _ _ La.out).mono ?_
          clear X1 X2 X3 Y1 Y2 Y3
          rintro e w4_ ⟨rfl, hb⟩
          have BX := Lib.hid (BX.out.up hb)
          have BY := Lib.hid (BY.out.up hb)
          have LA := Lib.hid (LA.out.up hb)
          have La := Lib.hid (La.out.up hb)
          have Lb := Lib.hid (Lb.out.up hb)
          have Lg := Lib.hid (Lg.out.up hb)
          have BB := Lib.hid (BB.out.trans (hb.mono BB.out.size))
          clear hb
          have X1 := BX.out.c1
          have X2 := BX.out.c2
          have X3 := BX.out.lt
          have Y1 := BY.out.c1
          have Y2 := BY.out.c2
          have Y3 := BY.out.lt
          go_wp2_with fail
          with_reducible refine (K5.out _ _ _ La.out).mono ?_
          clear X1 X2 X3 Y1 Y2 Y3
          rintro e w5_ ⟨rfl, hb⟩
          have BX := Lib.hid (BX.out.up hb)
          have BY := Lib.hid (BY.out.up hb)
          have LA := Lib.hid (LA.out.up hb)
          have La := Lib.hid (La.out.up hb)
          have Lb := Lib.hid (Lb.out.up hb)
          have Lg := Lib.hid (Lg.out.up hb)
          have BB := Lib.hid (BB.out.trans (hb.mono BB.out.size))
          clear hb
          have X1 := BX.out.c1
          have X2 := BX.out.c2
          have X3 := BX.out.lt
          have Y1 := BY.out.c1
          have Y2 := BY.out.c2
          have Y3 := BY.out.lt
          go_wp2_with fail
          with_reducible refine (KS.out _ _ _ _ _ _ HL.out Lb.out LA.out).mono ?_
          clear X1 X2 X3 Y1 Y2 Y3
          rintro e w6_ ⟨rfl, hb⟩
          have BX := Lib.hid (BX.out.up hb)
          have BY := Lib.hid (BY.out.up hb)
          have LA := Lib.hid (LA.out.up hb)
          have La := Lib.hid (La.out.up hb)
          have Lb := Lib.hid (Lb.out.up hb)
          have Lg := Lib.hid (Lg.out.up hb)
          have BB := Lib.hid (BB.out.trans (hb.mono BB.out.size))
          clear hb
          have X1 := BX.out.c1
          have X2 := BX.out.c2
          have X3 := BX.out.lt
          have Y1 := BY.out.c1
          have Y2 := BY.out.c2
          have Y3 := BY.out.lt
          go_wp2_with fail
          with_reducible refine (K6.out _ LA.out).mono ?_
          clear X1 X2 X3 Y1 Y2 Y3
          rintro e w7_ ⟨Ad, cd, rfl, hl, hb⟩
          have BX := Lib.hid (BX.out.up hb)
          have BY := Lib.hid (BY.out.up hb)
          have LA := Lib.hid (LA.out.up hb)
          have La := Lib.hid (La.out.up hb)
          have BB := Lib.hid (BB.out.trans (hb.mono BB.out.size))
          clear hb
          have Ld := Lib.hid hl
          clear hl
          have X1 := BX.out.c1
          have X2 := BX.out.c2
          have X3 := BX.out.lt
          have Y1 := BY.out.c1
          have Y2 := BY.out.c2
          have Y3 := BY.out.lt
          go_wp2_with fail
          with_reducible refine (KA.out _).mono ?_
          clear X1 X2 X3 Y1 Y2 Y3
          rintro e wz ⟨rfl, hb⟩
          have BB := Lib.hid (BB.out.trans (hb.mono BB.out.size))
          clear hb
          go_wp2
          go_ret
          exact ⟨rfl, BB.out⟩
        · have hte : (x.1 == y.1) = false := by simpa using ht
          have hlx := HLEN.out
          have hly := ins_len l y
          have hp : insO (insL l x) y = (insL (insL l x) y, 0) := insO_ok HOK.out g2 (by rw [hit_other HASC.out H123.out.2.2.1 ht]; exact g3) (by omega)
          have hq : insO (insL l y) x = (insL (insL l y) x, 0) := insO_ok (chk_ins g1 g2 g3 g4) H123.out.2.1 (by rw [hit_other HASC.out g3 (fun e => ht e.symm)]; exact H123.out.2.2.1) (by omega)
          have hcm := ins_comm HASC.out H123.out.2.2.1 g3 ht
          have hl2 := ins_len (insL l x) y
          rw [← hcm] at hq
          have K7 : Hid (∀ W A1 d1, LF W A1 d1 (insL l x) → Calls Try.prog 21 #[.slice A1 (insL l x).length d1, .agg #[.int .i64 y.1, .int .i64 y.2]] W (Out2 (insL (insL l x) y, 0) W)) := Lib.hid fun W A1 d1 h => by
            have := gInsert y (by omega) h
            rw [hp] at this
            exact this
          have K8 : Hid (∀ W A1 d1, LF W A1 d1 (insL l y) → Calls Try.prog 21 #[.slice A1 (insL l y).length d1, .agg #[.int .i64 x.1, .int .i64 x.2]] W (Out2 (insL (insL l x) y, 0) W)) := Lib.hid fun W A1 d1 h => by
            have := gInsert x (by omega) h
            rw [hq] at this
            exact this
          have HL2 : Hid ((insL (insL l x) y).length ≤ 1000) := Lib.hid (by omega)
          clear ht hp hq hcm hl2 hlx hly
          generalize insL (insL l x) y = p at *
          generalize insL l x = a at *
          generalize insL l y = d at *
          go_enter Try.func5, Try.ntmps5
          go_wp2_with fail
          with_reducible refine (KG.out _ _ (by simp)).mono ?_
          rintro e w0_ ⟨rfl, rfl⟩
          have X1 := BX.out.c1
          have X2 := BX.out.c2
          have X3 := BX.out.lt
          have Y1 := BY.out.c1
          have Y2 := BY.out.c2
          have Y3 := BY.out.lt
          go_wp2_with fail
          with_reducible refine (K1.out _ LA.out).mono ?_
          clear X1 X2 X3 Y1 Y2 Y3
          rintro e w1_ ⟨Aa, ca, rfl, hl, hb⟩
          have BX := Lib.hid (BX.out.up hb)
          have BY := Lib.hid (BY.out.up hb)
          have LA := Lib.hid (LA.out.up hb)
          have BB := Lib.hid (BB.out.trans (hb.mono BB.out.size))
          clear hb
          have La := Lib.hid hl
          clear hl
          have X1 := BX.out.c1
          have X2 := BX.out.c2
          have X3 := BX.out.lt
          have Y1 := BY.out.c1
          have Y2 := BY.out.c2
          have Y3 := BY.out.lt
          go_wp2_with fail
          with_reducible refine (K2.out _ _ _ La.out).mono ?_
          clear X1 X2 X3 Y1 Y2 Y3
          rintro e w2_ ⟨Ab, cb, rfl, hl, hb⟩
          have BX := Lib.hid (BX.out.up hb)
          have BY := Lib.hid (BY.out.up hb)
          have LA := Lib.hid (LA.out.up hb)
          have La := Lib.hid (La.out.up hb)
          have BB := Lib.hid (BB.out.trans (hb.mono BB.out.size))
          clear hb
          have Lb := Lib.hid hl
          clear hl
          have X1 := BX.out.c1
          have X2 := BX.out.c2
          have X3 := BX.out.lt
          have Y1 := BY.out.c1
          have Y2 := BY.out.c2
          have Y3 := BY.out.lt
          go_wp2_with fail
          with_reducible refine (K3.out _ _ _ La.out).mono ?_
          clear X1 X2 X3 Y1 Y2 Y3
          rintro e w3_ ⟨Ag, cg, rfl, hl, hb⟩
          have BX := Lib.hid (BX.out.up hb)
          have BY := Lib.hid (BY.out.up hb)
          have LA := Lib.hid (LA.out.up hb)
          have La := Lib.hid (La.out.up hb)
          have Lb := Lib.hid (Lb.out.up hb)
          have BB := Lib.hid (BB.out.trans (hb.mono BB.out.size))
          clear hb
          have Lg := Lib.hid hl
          clear hl
          have X1 := BX.out.c1
          have X2 := BX.out.c2
          have X3 := BX.out.lt
          have Y1 := BY.out.c1
          have Y2 := BY.out.c2
          have Y3 := BY.out.lt
          go_wp2_with fail
          with_reducible refine (K4.out _ _ _ La.out).mono ?_
          clear X1 X2 X3 Y1 Y2 Y3
          rintro e w4_ ⟨rfl, hb⟩
          have BX := Lib.hid (BX.out.up hb)
          have BY := Lib.hid (BY.out.up hb)
          have LA := Lib.hid (LA.out.up hb)
          have La := Lib.hid (La.out.up hb)
          have Lb := Lib.hid (Lb.out.up hb)
          have Lg := Lib.hid (Lg.out.up hb)
          have BB := Lib.hid (BB.out.trans (hb.mono BB.out.size))
          clear hb
          have X1 := BX.out.c1
          have X2 := BX.out.c2
          have X3 := BX.out.lt
          have Y1 := BY.out.c1
          have Y2 := BY.out.c2
          have Y3 := BY.out.lt
          go_wp2_with fail
          with_reducible refine (K5.out _ _ _ La.out).mono ?_
          clear X1 X2 X3 Y1 Y2 Y3
          rintro e w5_ ⟨rfl, hb⟩
          have BX := Lib.hid (BX.out.up hb)
          have BY := Lib.hid (BY.out.up hb)
          have LA := Lib.hid (LA.out.up hb)
          have La := Lib.hid (La.out.up hb)
          have Lb := Lib.hid (Lb.out.up hb)
          have Lg := Lib.hid (Lg.out.up hb)
          have BB := Lib.hid (BB.out.trans (hb.mono BB.out.size))
          clear hb
          have X1 := BX.out.c1
          have X2 := BX.out.c2
          have X3 := BX.out.lt
          have Y1 := BY.out.c1
          have Y2 := BY.out.c2
          have Y3 := BY.out.lt
          go_wp2_with fail
          with_reducible refine (KS.out _ _ _ _ _ _ HL.out Lb.out LA.out).mono ?_
          clear X1 X2 X3 Y1 Y2 Y3
          rintro e w6_ ⟨rfl, hb⟩
          have BX := Lib.hid (BX.out.up hb)
          have BY := Lib.hid (BY.out.up hb)
          have LA := Lib.hid (LA.out.up hb)
          have La := Lib.hid (La.out.up hb)
          have Lb := Lib.hid (Lb.out.up hb)
          have Lg := Lib.hid (Lg.out.up hb)
          have BB := Lib.hid (BB.out.trans (hb.mono BB.out.size))
          clear hb
          have X1 := BX.out.c1
          have X2 := BX.out.c2
          have X3 := BX.out.lt
          have Y1 := BY.out.c1
          have Y2 := BY.out.c2
          have Y3 := BY.out.lt
          go_wp2_with fail
          with_reducible refine (K6.out _ LA.out).mono ?_
          clear X1 X2 X3 Y1 Y2 Y3
          rintro e w7_ ⟨Ad, cd, rfl, hl, hb⟩
          have BX := Lib.hid (BX.out.up hb)
          have BY := Lib.hid (BY.out.up hb)
          have LA := Lib.hid (LA.out.up hb)
          have La := Lib.hid (La.out.up hb)
          have BB := Lib.hid (BB.out.trans (hb.mono BB.out.size))
          clear hb
          have Ld := Lib.hid hl
          clear hl
          have X1 := BX.out.c1
          have X2 := BX.out.c2
          have X3 := BX.out.lt
          have Y1 := BY.out.c1
          have Y2 := BY.out.c2
          have Y3 := BY.out.lt
          go_wp2_with fail
          with_reducible refine (K7.out _ _ _ La.out).mono ?_
          clear X1 X2 X3 Y1 Y2 Y3
          rintro e w8_ ⟨Ap, cp, rfl, hl, hb⟩
          have BX := Lib.hid (BX.out.up hb)
          have BY := Lib.hid (BY.out.up hb)
          have LA := Lib.hid (LA.out.up hb)
          have La := Lib.hid (La.out.up hb)
          have Ld := Lib.hid (Ld.out.up hb)
          have BB := Lib.hid (BB.out.trans (hb.mono BB.out.size))
          clear hb
          have Lp := Lib.hid hl
          clear hl
          have X1 := BX.out.c1
          have X2 := BX.out.c2
          have X3 := BX.out.lt
          have Y1 := BY.out.c1
          have Y2 := BY.out.c2
          have Y3 := BY.out.lt
          go_wp2_with fail
          with_reducible refine (K8.out _ _ _ Ld.out).mono ?_
          clear X1 X2 X3 Y1 Y2 Y3
          rintro e w9_ ⟨Aq, cq, rfl, hl, hb⟩
          have BX := Lib.hid (BX.out.up hb)
          have BY := Lib.hid (BY.out.up hb)
          have LA := Lib.hid (LA.out.up hb)
          have La := Lib.hid (La.out.up hb)
          have Ld := Lib.hid (Ld.out.up hb)
          have Lp := Lib.hid (Lp.out.up hb)
          have BB := Lib.hid (BB.out.trans (hb.mono BB.out.size))
          clear hb
          have Lq := Lib.hid hl
          clear hl
          have X1 := BX.out.c1
          have X2 := BX.out.c2
          have X3 := BX.out.lt
          have Y1 := BY.out.c1
          have Y2 := BY.out.c2
          have Y3 := BY.out.lt
          go_wp2_with fail
          with_reducible refine (KS.out _ _ _ _ _ _ HL2.out Lp.out Lq.out).mono ?_
          clear X1 X2 X3 Y1 Y2 Y3
          rintro e w10_ ⟨rfl, hb⟩
          have BX := Lib.hid (BX.out.up hb)
          have BY := Lib.hid (BY.out.up hb)
          have LA := Lib.hid (LA.out.up hb)
          have La := Lib.hid (La.out.up hb)
          have Ld := Lib.hid (Ld.out.up hb)
          have Lp := Lib.hid (Lp.out.up hb)
          have Lq := Lib.hid (Lq.out.up hb)
          have BB := Lib.hid (BB.out.trans (hb.mono BB.out.size))
          clear hb
          have X1 := BX.out.c1
          have X2 := BX.out.c2
          have X3 := BX.out.lt
          have Y1 := BY.out.c1
          have Y2 := BY.out.c2
          have Y3 := BY.out.lt
          go_wp2_with fail
          with_reducible refine (KA.out _).mono ?_
          clear X1 X2 X3 Y1 Y2 Y3
          rintro e wz ⟨rfl, hb⟩
          have BB := Lib.hid (BB.out.trans (hb.mono BB.out.size))
          clear hb
          go_wp2
          go_ret
          exact ⟨rfl, BB.out⟩
end Go.Proofs.Ytobipbedkkmlcaa.Sr
