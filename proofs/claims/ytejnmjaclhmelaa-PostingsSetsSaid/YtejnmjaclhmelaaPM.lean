/- Layer 8: awake. -/
import Derived.Test.YtejnmjaclhmelaaPL
set_option linter.unusedVariables false
set_option linter.unusedSimpArgs false
namespace Go.Proofs.Ytejnmjaclhmelaa.Po
open Go.RowKit
set_option maxHeartbeats 8000000 in
set_option maxRecDepth 100000 in
theorem awake_any (w : World) : Calls Try.prog 13 #[] w fun e w' => e = .returned (.bool true) ∧ Below w.heap.size w w' := by
  have CE : Hid (∀ (v : World) (b : Nat), v.heap.size = b → Calls Try.prog 27 #[.slice (some ⟨b, 0, none⟩) 3 3] (v.alloc (.cells #[.int .i64 1, .int .i64 3, .int .i64 300] 3)) fun e w' => e = .returned (.tuple #[.string ⟨#[3, 1, 1, 168, 2]⟩, .int .i64 0]) ∧ Below v.heap.size v w') := Lib.hid fun v b hvb => by
    subst hvb
    have h := gEncode_any [1, 3, 300] (by decide) _ _ (Ints.made v [1, 3, 300] 3 rfl (by simp : v.heap.size + 1 ≤ (v.alloc (.cells (ic [1, 3, 300]).toArray 3)).heap.size))
    rw [ex_enc] at h
    refine h.mono ?_
    rintro e w' ⟨rfl, hb⟩
    exact ⟨rfl, ((Below.refl _ _).alloc (Nat.le_refl _) _).trans (hb.mono (by simp))⟩
  have CD : Hid (∀ v : World, Calls Try.prog 29 #[.string ⟨#[3, 1, 1, 168, 2]⟩] v (DecOut v ([1, 3, 300], 0))) := Lib.hid fun v => by
    have h := gDecode_any ⟨#[3, 1, 1, 168, 2]⟩ (by decide) v
    rw [show (⟨#[3, 1, 1, 168, 2]⟩ : ByteArray).data.toList = [3, 1, 1, 168, 2] from rfl, ex_dec] at h
    exact h
  have W0 := Lib.hid (Below.refl w.heap.size w)
  have A0 := Lib.hid (Ints.made w [1, 3, 5] 3 rfl (Nat.le_refl _))
  have A1 := Lib.hid (Ints.made (w.alloc (.cells (ic [1, 3, 5]).toArray 3)) [3, 4] 2 rfl (Nat.le_refl _))
  have B2 : Hid (Below w.heap.size w ((w.alloc (.cells #[.int .i64 1, .int .i64 3, .int .i64 5] 3)).alloc (.cells #[.int .i64 3, .int .i64 4] 3))) := Lib.hid (((Below.refl _ _).alloc (Nat.le_refl _) _).alloc (by simp) _)
  have IA : Hid (Ints (w.heap.size + 2) ((w.alloc (.cells #[.int .i64 1, .int .i64 3, .int .i64 5] 3)).alloc (.cells #[.int .i64 3, .int .i64 4] 3)) (.slice (some ⟨w.heap.size, 0, none⟩) 3 3) [1, 3, 5]) := Lib.hid ((A0.out.below ((Below.refl _ _).alloc (by simp [ic]) _)).mono (by omega))
  have IB : Hid (Ints (w.heap.size + 2) ((w.alloc (.cells #[.int .i64 1, .int .i64 3, .int .i64 5] 3)).alloc (.cells #[.int .i64 3, .int .i64 4] 3)) (.slice (some ⟨w.heap.size + 1, 0, none⟩) 2 2) [3, 4]) := Lib.hid (by have := A1.out; simpa [ic] using this)
  clear A0 A1
  have CA : Hid (∀ v : World, Below (w.heap.size + 2) ((w.alloc (.cells #[.int .i64 1, .int .i64 3, .int .i64 5] 3)).alloc (.cells #[.int .i64 3, .int .i64 4] 3)) v → Calls Try.prog 17 #[.slice (some ⟨w.heap.size, 0, none⟩) 3 3, .slice (some ⟨w.heap.size + 1, 0, none⟩) 2 2] v (IntsOut v [3])) := Lib.hid fun v hb => by
    have h := gAnd_any [1, 3, 5] [3, 4] (by decide) (by decide) _ _ v ((IA.out.below hb).mono (by have := hb.size; simp at this; omega)) ((IB.out.below hb).mono (by have := hb.size; simp at this; omega))
    rw [ex_and] at h
    exact h
  have CO : Hid (∀ v : World, Below (w.heap.size + 2) ((w.alloc (.cells #[.int .i64 1, .int .i64 3, .int .i64 5] 3)).alloc (.cells #[.int .i64 3, .int .i64 4] 3)) v → Calls Try.prog 19 #[.slice (some ⟨w.heap.size, 0, none⟩) 3 3, .slice (some ⟨w.heap.size + 1, 0, none⟩) 2 2] v (IntsOut v [1, 3, 4, 5])) := Lib.hid fun v hb => by
    have h := gOr_any [1, 3, 5] [3, 4] (by decide) (by decide) _ _ v ((IA.out.below hb).mono (by have := hb.size; simp at this; omega)) ((IB.out.below hb).mono (by have := hb.size; simp at this; omega))
    rw [ex_or] at h
    exact h
  have CW : Hid (∀ v : World, Below (w.heap.size + 2) ((w.alloc (.cells #[.int .i64 1, .int .i64 3, .int .i64 5] 3)).alloc (.cells #[.int .i64 3, .int .i64 4] 3)) v → Calls Try.prog 21 #[.slice (some ⟨w.heap.size, 0, none⟩) 3 3, .slice (some ⟨w.heap.size + 1, 0, none⟩) 2 2] v (IntsOut v [1, 5])) := Lib.hid fun v hb => by
    have h := gWithout_any [1, 3, 5] [3, 4] (by decide) (by decide) _ _ v ((IA.out.below hb).mono (by have := hb.size; simp at this; omega)) ((IB.out.below hb).mono (by have := hb.size; simp at this; omega))
    rw [ex_wi] at h
    exact h
  have CS : Hid (∀ v : World, Below (w.heap.size + 2) ((w.alloc (.cells #[.int .i64 1, .int .i64 3, .int .i64 5] 3)).alloc (.cells #[.int .i64 3, .int .i64 4] 3)) v → Calls Try.prog 23 #[.slice (some ⟨w.heap.size, 0, none⟩) 3 3, .int .i64 4] v fun e w' => e = .returned (.int .i64 2) ∧ Below v.heap.size v w') := Lib.hid fun v hb => by
    have h := gSeek_any [1, 3, 5] (by decide) _ 4 v ((IA.out.below hb).mono (by have := hb.size; simp at this; omega))
    rw [ex_seek] at h
    exact h
  -- Same, of what came back and of what is written out behind it
  have CM : Hid (∀ (l : List Int) (n : Nat) (cs : Array Value) (v : World) (sx : Value), l.length = n → n ≤ 10 → (ic l).toArray = cs → Ints v.heap.size v sx l → Calls Try.prog 16 #[sx, .slice (some ⟨v.heap.size, 0, none⟩) n n] (v.alloc (.cells cs 3)) fun e w' => e = .returned (.bool true) ∧ Below v.heap.size v w') := Lib.hid fun l n cs v sx hn hn2 hcs hX => by
    subst hcs
    have hA : Below v.heap.size v (v.alloc (.cells (ic l).toArray 3)) := (Below.refl _ _).alloc (Nat.le_refl _) _
    refine (same_yes l l rfl (by omega) sx _ _ ((hX.below hA).mono (by simp)) (Ints.made v l n hn (by simp))).mono ?_
    rintro e w' ⟨rfl, hb⟩
    exact ⟨rfl, hA.trans (hb.mono (by simp))⟩
  have hw : (w.alloc (.cells #[.int .i64 1, .int .i64 3, .int .i64 5] 3)).heap.size = w.heap.size + 1 := by simp
  go_enter Try.func13, Try.ntmps13
  go_wp2_with fail
  refine (CE.out _ _ ?hvb).mono ?_
  case hvb => simp
  rintro e w1 ⟨rfl, hb1⟩
  have K1 := Lib.hid (hb1.mono (Nat.le_of_eq (by simp : w.heap.size + 2 = ((w.alloc (.cells #[.int .i64 1, .int .i64 3, .int .i64 5] 3)).alloc (.cells #[.int .i64 3, .int .i64 4] 3)).heap.size)))
  have B1 := Lib.hid (B2.out.trans (hb1.mono (by simp; omega)))
  clear hb1 B2 W0 CE
  go_wp2_with fail
  refine (CD.out _).mono ?_
  rintro e w2 ⟨vd, rfl, hd, hb2⟩
  have ID := Lib.hid hd
  have K2 := Lib.hid (K1.out.trans (hb2.mono (by have := K1.out.size; simp at this; omega)))
  have B2 := Lib.hid (B1.out.trans (hb2.mono B1.out.size))
  have HS2 : Hid (w.heap.size + 2 ≤ w2.heap.size) := Lib.hid (by have := K2.out.size; simp at this; omega)
  clear hd hb2 K1 B1 CD
  go_wp2_with fail
  refine (CA.out _ K2.out).mono ?_
  rintro e w3 ⟨va, rfl, ha, hb3⟩
  go_wp2_with fail
  refine (CM.out [3] 1 #[.int .i64 3] _ _ rfl (by omega) rfl ha).mono ?_
  rintro e w4 ⟨rfl, hb4⟩
  have HH4 := Lib.hid (hb3.trans (hb4.mono hb3.size))
  have ID4 := Lib.hid (ID.out.below HH4.out)
  have K4 := Lib.hid (K2.out.trans (HH4.out.mono HS2.out))
  have B4 := Lib.hid (B2.out.trans (HH4.out.mono B2.out.size))
  have L4 := Lib.hid HH4.out.size
  clear hb3 hb4 ha HH4 ID K2 B2 CA
  go_wp2_with fail
  refine (CO.out _ K4.out).mono ?_
  rintro e w5 ⟨vo, rfl, ho, hb5⟩
  go_wp2_with fail
  refine (CM.out [1, 3, 4, 5] 4 #[.int .i64 1, .int .i64 3, .int .i64 4, .int .i64 5] _ _ rfl (by omega) rfl ho).mono ?_
  rintro e w6 ⟨rfl, hb6⟩
  have HH6 := Lib.hid (hb5.trans (hb6.mono hb5.size))
  have ID6 := Lib.hid (ID4.out.below (HH6.out.mono L4.out))
  have K6 := Lib.hid (K4.out.trans (HH6.out.mono (Nat.le_trans HS2.out L4.out)))
  have B6 := Lib.hid (B4.out.trans (HH6.out.mono B4.out.size))
  have L6 := Lib.hid (Nat.le_trans L4.out HH6.out.size)
  clear hb5 hb6 ho HH6 ID4 K4 B4 L4 CO
  go_wp2_with fail
  refine (CW.out _ K6.out).mono ?_
  rintro e w7 ⟨vw, rfl, hw7, hb7⟩
  go_wp2_with fail
  refine (CM.out [1, 5] 2 #[.int .i64 1, .int .i64 5] _ _ rfl (by omega) rfl hw7).mono ?_
  rintro e w8 ⟨rfl, hb8⟩
  have HH8 := Lib.hid (hb7.trans (hb8.mono hb7.size))
  have ID8 := Lib.hid (ID6.out.below (HH8.out.mono L6.out))
  have K8 := Lib.hid (K6.out.trans (HH8.out.mono (Nat.le_trans HS2.out L6.out)))
  have B8 := Lib.hid (B6.out.trans (HH8.out.mono B6.out.size))
  have L8 := Lib.hid (Nat.le_trans L6.out HH8.out.size)
  clear hb7 hb8 hw7 HH8 ID6 K6 B6 L6 CW
  go_wp2_with fail
  refine (CS.out _ K8.out).mono ?_
  rintro e w9 ⟨rfl, hb9⟩
  have ID9 := Lib.hid ((ID8.out.below (hb9.mono L8.out)).mono (Nat.le_trans L8.out hb9.size))
  have B9 := Lib.hid (B8.out.trans (hb9.mono B8.out.size))
  clear hb9 ID8 K8 B8 L8 CS
  go_wp2_with fail
  refine (CM.out [1, 3, 300] 3 #[.int .i64 1, .int .i64 3, .int .i64 300] _ _ rfl (by omega) rfl ID9.out).mono ?_
  rintro e w10 ⟨rfl, hb10⟩
  have B10 := Lib.hid (B9.out.trans (hb10.mono B9.out.size))
  clear hb10 B9
  go_wp2
  go_ret
  exact ⟨rfl, B10.out⟩
end Go.Proofs.Ytejnmjaclhmelaa.Po
