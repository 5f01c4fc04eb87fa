/- Layer 5: awake. -/
import Derived.Deep.RegionWith
import Derived.Test.YtbphhdmnfepbnaaLU
import Derived.Test.YtbphhdmnfepbnaaLK
import Derived.Test.YtbphhdmnfepbnaaLN
set_option linter.unusedVariables false
set_option linter.unusedSimpArgs false
namespace Go.Proofs.Ytbphhdmnfepbnaa.Lab
open Go.RowKit
def sName : ByteArray := ⟨#[95, 95, 110, 97, 109, 101, 95, 95]⟩
def sUp : ByteArray := ⟨#[117, 112]⟩
def sJob : ByteArray := ⟨#[106, 111, 98]⟩
def sAB : ByteArray := ⟨#[97, 34, 98]⟩
def sTxt : ByteArray := ⟨#[123, 95, 95, 110, 97, 109, 101, 95, 95, 61, 34, 117, 112, 34, 44, 106, 111, 98, 61, 34, 97, 92, 34, 98, 34, 125]⟩
def aw2 : List Lb := [⟨sName, sUp⟩, ⟨sJob, sAB⟩]
def aw1 : List Lb := [⟨sJob, sAB⟩]
theorem aw_parse : parseO sTxt.data.toList = (aw2, 0) := by kernel_rfl
theorem aw_fmt : (⟨(fmtL aw2).toArray⟩ : ByteArray) = sTxt := by kernel_rfl
theorem aw_keep : keepL true [sJob] aw2 = aw1 := by
  have h1 : hasB [sJob] sName = false := by kernel_rfl
  have h2 : hasB [sJob] sJob = true := by kernel_rfl
  unfold keepL aw2
  rw [List.filter_cons, List.filter_cons, if_neg (by rw [h1]; decide), if_pos (by rw [h2]; decide)]
  rfl
theorem aw_h0 : hashL (⟨#[]⟩ : ByteArray).data.toList = 2166136261 := by kernel_rfl
theorem aw_h1 : hashL (⟨#[97]⟩ : ByteArray).data.toList = 3826002220 := by kernel_rfl
theorem LS.two {w : World} {b : Nat} (hb : b < w.heap.size) (h0 : w.cell? ⟨b, 0, none⟩ = some (.string sName)) (h1 : w.cell? ⟨b, 1, none⟩ = some (.string sUp)) (h2 : w.cell? ⟨b, 2, none⟩ = some (.string sJob)) (h3 : w.cell? ⟨b, 3, none⟩ = some (.string sAB)) :
    LS w w.heap.size (some ⟨b, 0, none⟩) aw2 ∧ LS w w.heap.size (some ⟨b, 2, none⟩) aw1 := by
  constructor
  · intro _
    refine ⟨b, 0, rfl, hb, fun j hj => ?_⟩
    match j, hj with
    | 0, _ => exact ⟨h0, h1⟩
    | 1, _ => exact ⟨h2, h3⟩
  · intro _
    refine ⟨b, 2, rfl, hb, fun j hj => ?_⟩
    match j, hj with
    | 0, _ => exact ⟨h2, h3⟩
set_option maxRecDepth 100000 in
set_option maxHeartbeats 4000000 in
theorem awake_any (w : World) : Calls Try.prog 11 #[] w fun e w' => e = .returned (.bool true) ∧ Below w.heap.size w w' := by
  obtain ⟨W1, hW1⟩ : ∃ W1, W1 = w.alloc (.cells #[.string sName, .string sUp, .string sJob, .string sAB] 29) := ⟨_, rfl⟩
  have hsz : W1.heap.size = w.heap.size + 1 := by rw [hW1]; simp
  have HB1 : Hid (Below w.heap.size w W1) := by rw [hW1]; exact (Below.refl _ w).alloc (Nat.le_refl _) _
  have hLS : LS W1 W1.heap.size (some ⟨w.heap.size, 0, none⟩) aw2 ∧ LS W1 W1.heap.size (some ⟨w.heap.size, 2, none⟩) aw1 := by
    refine LS.two (by omega) ?_ ?_ ?_ ?_ <;> (rw [hW1]; simp)
  have N0 : Hid (∀ V, Below W1.heap.size W1 V → LS V W1.heap.size (some ⟨w.heap.size, 0, none⟩) aw2 ∧ LS V W1.heap.size (some ⟨w.heap.size, 2, none⟩) aw1) := fun V h => ⟨hLS.1.below h, hLS.2.below h⟩
  have B0 : Hid (w.heap.size < W1.heap.size) := (by omega : w.heap.size < W1.heap.size)
  have HW := Lib.hid hW1
  have C23 : Hid (Calls Try.prog 23 #[.string sTxt] W1 fun e w' => ∃ A c, e = .returned (.tuple #[.slice A 2 c, .int .i64 0]) ∧ LS w' w'.heap.size A aw2 ∧ Below W1.heap.size W1 w') :=
    (parse_any sTxt (by decide) W1).mono fun e w' ⟨v, m, er, he, ho, hb, hp⟩ => by
      rw [aw_parse] at hp
      cases hp
      obtain ⟨A, c, rfl, hl⟩ := ho.form
      exact ⟨A, c, he, hl, hb⟩
  have C25 : Hid (∀ V, Below W1.heap.size W1 V → Calls Try.prog 25 #[.slice (some ⟨w.heap.size, 0, none⟩) 2 2] V fun e w' => e = .returned (.string sTxt) ∧ Below V.heap.size V w') := fun V h =>
    (format_any aw2 (by decide) (by decide) (by rw [show (fmtL aw2).length = 26 by kernel_rfl]; omega) _ 2 V ((N0.out V h).1.more h.size)).mono fun e w' ⟨he, hb⟩ => ⟨by rw [he, aw_fmt], hb⟩
  have C14 : Hid (∀ V A c, Below W1.heap.size W1 V → LS V V.heap.size A aw2 → Calls Try.prog 14 #[.slice (some ⟨w.heap.size, 0, none⟩) 2 2, .slice A 2 c] V fun e w' => e = .returned (.bool true) ∧ ∃ n, w' = V.drewN n) := fun V A c h hl =>
    (equal_any aw2 aw2 (by decide) (by decide) _ A 2 c _ _ V (N0.out V h).1 hl).mono fun e w' ⟨he, hb⟩ => ⟨by rw [he, show eqL aw2 aw2 = true by kernel_rfl], hb⟩
  have C19 : Hid (∀ V g, Below W1.heap.size W1 V → g < V.heap.size → V.cell? ⟨g, 0, none⟩ = some (.string sJob) → Calls Try.prog 19 #[.slice (some ⟨w.heap.size, 0, none⟩) 2 2, .slice (some ⟨g, 0, none⟩) 1 1] V fun e w' => ∃ A c, e = .returned (.slice A 1 c) ∧ LS w' w'.heap.size A aw1 ∧ Below V.heap.size V w') := fun V g h hg hc =>
    (keep_any aw2 (by decide) _ 2 [sJob] (by decide) _ 1 V ((N0.out V h).1.more h.size) (fun _ => ⟨g, 0, rfl, hg, fun j hj => by
      match j, hj with
      | 0, _ => exact hc⟩)).mono fun e w' ⟨v, he, ho, hb⟩ => by
      rw [aw_keep] at ho
      obtain ⟨A, c, rfl, hl⟩ := ho.form
      exact ⟨A, c, he, hl, hb⟩
  have C14b : Hid (∀ V A c, Below W1.heap.size W1 V → LS V V.heap.size A aw1 → Calls Try.prog 14 #[.slice A 1 c, .slice (some ⟨w.heap.size, 2, none⟩) 1 1] V fun e w' => e = .returned (.bool true) ∧ ∃ n, w' = V.drewN n) := fun V A c h hl =>
    (equal_any aw1 aw1 (by decide) (by decide) A _ c 1 _ _ V hl (N0.out V h).2).mono fun e w' ⟨he, hb⟩ => ⟨by rw [he, show eqL aw1 aw1 = true by kernel_rfl], hb⟩
  have C29 : Hid (∀ V, Calls Try.prog 29 #[.string ⟨#[]⟩] V fun e w' => e = .returned (.int .i64 2166136261) ∧ V = w') := fun V => by
    have h := hash_any ⟨#[]⟩ (by decide) V
    rw [aw_h0] at h
    exact h
  have C29b : Hid (∀ V, Calls Try.prog 29 #[.string ⟨#[97]⟩] V fun e w' => e = .returned (.int .i64 3826002220) ∧ V = w') := fun V => by
    have h := hash_any ⟨#[97]⟩ (by decide) V
    rw [aw_h1] at h
    exact h
  clear hLS N0 hsz hW1
  go_enter Try.func11, Try.ntmps11
  go_wp2_with (go_at_call 23; show Calls Try.prog 23 #[.string sTxt] (w.alloc (.cells #[.string sName, .string sUp, .string sJob, .string sAB] 29)) _; rw [← HW.out]; (with_reducible refine C23.out.mono ?_); rintro e w2 ⟨A, c, rfl, hl, hb⟩; have HL := Lib.hid hl; have HB := Lib.hid hb; clear hl hb)
  have D25 : Hid (∀ V, Below w2.heap.size w2 V → Calls Try.prog 25 #[.slice (some ⟨w.heap.size, 0, none⟩) 2 2] V fun e w' => e = .returned (.string ⟨#[123, 95, 95, 110, 97, 109, 101, 95, 95, 61, 34, 117, 112, 34, 44, 106, 111, 98, 61, 34, 97, 92, 34, 98, 34, 125]⟩) ∧ Below w2.heap.size w2 w') := fun V h =>
    (C25.out V (HB.out.trans (h.mono HB.out.size))).mono fun e w' ⟨he, hb⟩ => ⟨he, h.trans (hb.mono h.size)⟩
  have D14 : Hid (∀ V, Below w2.heap.size w2 V → Calls Try.prog 14 #[.slice (some ⟨w.heap.size, 0, none⟩) 2 2, .slice A 2 c] V fun e w' => e = .returned (.bool true) ∧ Below w2.heap.size w2 w') := fun V h =>
    (C14.out V A c (HB.out.trans (h.mono HB.out.size)) ((HL.out.below h).more h.size)).mono fun e w' ⟨he, n, hn⟩ => ⟨he, by rw [hn]; exact below_drewN h n⟩
  have D19 : Hid (∀ V g, Below w2.heap.size w2 V → g < V.heap.size → V.cell? ⟨g, 0, none⟩ = some (.string ⟨#[106, 111, 98]⟩) → Calls Try.prog 19 #[.slice (some ⟨w.heap.size, 0, none⟩) 2 2, .slice (some ⟨g, 0, none⟩) 1 1] V fun e w' => ∃ A c, e = .returned (.slice A 1 c) ∧ LS w' w'.heap.size A aw1 ∧ Below w2.heap.size w2 w') := fun V g h hg hc =>
    (C19.out V g (HB.out.trans (h.mono HB.out.size)) hg hc).mono fun e w' ⟨A, c, he, hl, hb⟩ => ⟨A, c, he, hl, h.trans (hb.mono h.size)⟩
  have D14b : Hid (∀ V A c, Below w2.heap.size w2 V → LS V V.heap.size A aw1 → Calls Try.prog 14 #[.slice A 1 c, .slice (some ⟨w.heap.size, 2, none⟩) 1 1] V fun e w' => e = .returned (.bool true) ∧ Below w2.heap.size w2 w') := fun V A c h hl =>
    (C14b.out V A c (HB.out.trans (h.mono HB.out.size)) hl).mono fun e w' ⟨he, n, hn⟩ => ⟨he, by rw [hn]; exact below_drewN h n⟩
  have BB := Lib.hid (HB1.out.trans (HB.out.mono (Nat.le_of_lt B0.out)))
  have SZ : Hid (w.heap.size ≤ w2.heap.size) := BB.out.size
  clear C23 C25 C14 C19 C14b HL HB HB1 B0 HW W1
  have R0 : Hid (Below w2.heap.size w2 w2.drew) := (Below.refl _ _).drew
  go_region_with (first
    | (go_at_call 25; (with_reducible refine (D25.out _ R0.out).mono ?_); rintro e w3 ⟨rfl, hb⟩; have R3 := Lib.hid hb; clear hb)
    | (go_at_call 14; (with_reducible refine (D14.out _ R3.out).mono ?_); rintro e w4 ⟨rfl, hb⟩; have R4 := Lib.hid hb; clear hb)
    | (go_at_call 19; (with_reducible refine (D19.out (w4.alloc (.cells #[.string ⟨#[106, 111, 98]⟩] 9)) w4.heap.size (R4.out.alloc R4.out.size _) (by simp) (by simp)).mono ?_); rintro e w5 ⟨A1, c1, rfl, hl, hb⟩; have R5 := Lib.hid hb; have L5 := Lib.hid hl; clear hb hl)
    | (go_at_call 14; (with_reducible refine (D14b.out _ _ _ R5.out L5.out).mono ?_); rintro e w6 ⟨rfl, hb⟩; have R6 := Lib.hid hb; clear hb)
    | (go_at_call 29; (with_reducible refine (C29.out _).mono ?_); rintro e w7 ⟨rfl, rfl⟩)
    | (go_at_call 29; (with_reducible refine (C29b.out _).mono ?_); rintro e w7 ⟨rfl, rfl⟩))
  all_goals go_wp2_with fail
  all_goals go_ret
  all_goals exact ⟨rfl, BB.out.trans (R6.out.mono SZ.out)⟩
end Go.Proofs.Ytbphhdmnfepbnaa.Lab
