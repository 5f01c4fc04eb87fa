/- The examples of the chapter: awake returns true. -/
import Derived.Test.YtihblhdiheflaaaDec
import Derived.Test.YtihblhdiheflaaaSame
namespace Go.Proofs.Ytihblhdiheflaaa
open Go.RowKit

theorem uv300 : Lib.uvarint 300 = [172, 2] := by
  rw [Lib.uvarint_big (by omega), Lib.uvarint_small (by omega)]
  rfl
theorem enc_ex : enc [-1, 150] = [2, 1, 172, 2] := by
  have e1 : fold (-1) = 1 := rfl
  have e2 : fold 150 = 300 := rfl
  unfold enc flat flat flat
  rw [e1, e2, uv300, List.length_cons, List.length_cons, List.length_nil, Lib.uvarint_small (by omega), Lib.uvarint_small (by omega)]
  rfl
theorem inR_ex : ∀ z ∈ [(-1 : Int), 150], inR z := by
  intro z hz
  simp at hz
  unfold inR
  omega

theorem append_ex (w : World) : Calls Try.prog 11 #[.string ⟨#[]⟩, .int .i64 300] w fun e w' => e = .returned (.tuple #[.string ⟨#[172, 2]⟩, .int .i64 0]) ∧ Below w.heap.size w w' := by
  refine (append_any ⟨#[]⟩ 300 w (by decide) (by omega)).mono ?_
  rintro e w' ⟨rfl, hb⟩
  exact ⟨by rw [uv300]; rfl, hb⟩
theorem encode_ex (a : Option Addr) (cap : Nat) (w : World) (h : IntsAt w.heap.size w (.slice a 2 cap) [-1, 150]) :
    Calls Try.prog 21 #[.slice a 2 cap] w fun e w' => e = .returned (.tuple #[.string ⟨#[2, 1, 172, 2]⟩, .int .i64 0]) ∧ Below w.heap.size w w' := by
  refine (encode_any [-1, 150] (by simp) _ w h).mono ?_
  rintro e w' ⟨rfl, hb⟩
  exact ⟨by rw [encOut_ok inR_ex, enc_ex], hb⟩
theorem decode_ex (w : World) : Calls Try.prog 23 #[.string ⟨#[2, 1, 172, 2]⟩] w fun e w' => ∃ v, e = .returned (.tuple #[v, .int .i64 0]) ∧ IntsAt w'.heap.size w' v [-1, 150] ∧ Below w.heap.size w w' := by
  refine (decode_any ⟨#[2, 1, 172, 2]⟩ (by decide) w).mono ?_
  rintro e w' ⟨v, rfl, hown, hb⟩
  have hd : dec [2, 1, 172, 2] = ([-1, 150], 0) := by rw [← enc_ex]; exact dec_enc _ (by simp) inR_ex
  have hd' : dec (⟨#[2, 1, 172, 2]⟩ : ByteArray).data.toList = ([-1, 150], 0) := hd
  rw [hd'] at hown ⊢
  exact ⟨v, rfl, intsAt_own hown (Nat.le_refl _), hb⟩

theorem two_new (w : World) (t : TypeId) : IntsAt (w.alloc (.cells #[.int .i64 (-1), .int .i64 150] t)).heap.size (w.alloc (.cells #[.int .i64 (-1), .int .i64 150] t)) (.slice (some ⟨w.heap.size, 0, none⟩) 2 2) [-1, 150] :=
  ⟨_, 2, rfl, fun _ => ⟨w.heap.size, 0, rfl, by simp, fun j hj => by
    rw [World.cell?_alloc_at _ _ _ _ rfl]
    match j, hj with
    | 0, _ => rfl
    | 1, _ => rfl⟩⟩

set_option maxHeartbeats 1000000 in
set_option maxRecDepth 100000 in
theorem awake_any (w : World) : Calls Try.prog 10 #[] w fun e w' => e = .returned (.bool true) ∧ Below w.heap.size w w' := by
  go_enter Try.func10, Try.ntmps10
  go_wp2_with fail
  refine (append_ex _).mono ?_
  rintro e w1 ⟨rfl, hb1⟩
  have H1 := Lib.hid hb1
  clear hb1
  go_wp2_with fail
  refine (encode_ex _ _ _ (two_new _ _)).mono ?_
  rintro e w2 ⟨rfl, hb2⟩
  have H2 : Hid (Below w.heap.size w w2) := (H1.out.alloc H1.out.size _).trans (hb2.mono (by have := H1.out.size; simp; omega))
  clear hb2 H1
  go_wp2_with fail
  refine (decode_ex _).mono ?_
  rintro e w3 ⟨v, rfl, hI, hb3⟩
  have H3 : Hid (Below w.heap.size w w3) := H2.out.trans (hb3.mono H2.out.size)
  have HI := Lib.hid hI
  clear hb3 H2 hI
  go_wp2_with fail
  refine (equal_any _ [-1, 150] [-1, 150] (by simp) _ _ _ (Nat.le_refl _) ((HI.out.below ((Below.refl _ _).alloc (Nat.le_refl _) _)).mono (by simp)) (two_new _ _)).mono ?_
  rintro e w4 ⟨rfl, hb4⟩
  have H4 : Hid (Below w.heap.size w w4) := (H3.out.alloc H3.out.size _).trans (hb4.mono (by have := H3.out.size; simp; omega))
  clear hb4 H3
  have hs : sameB [-1, 150] [-1, 150] = true := rfl
  go_wp2
  go_ret
  exact ⟨rfl, H4.out⟩
end Go.Proofs.Ytihblhdiheflaaa
