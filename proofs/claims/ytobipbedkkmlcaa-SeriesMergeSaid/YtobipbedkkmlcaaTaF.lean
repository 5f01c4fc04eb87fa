/- Layer 11: the program's Slice. -/
import Derived.Test.YtobipbedkkmlcaaTaD
set_option linter.unusedVariables false
set_option linter.unusedSimpArgs false
namespace Go.Proofs.Ytobipbedkkmlcaa.Sr
open Go.RowKit
set_option maxHeartbeats 2000000 in
theorem pSlice_any (l : List S) (hl : l.length ≤ 100000) (A : Option Addr) (c : Nat) (f t : Int) (w : World) (hA : LS w w.heap.size A l) :
    Calls Try.prog 15 #[.slice A l.length c, .int .i64 f, .int .i64 t] w (OwnPost (slcL l f t) w) := by
  have HA := Lib.hid hA
  clear hA
  obtain ⟨i0, hi, hz0, hz1, hz2⟩ := info_parts infoS
  have O0 : Hid (OwnS w w.heap.size (.slice none 0 0) []) := World.ownsRow_nil _ _ _ _
  have B0 : Hid (Below w.heap.size w w) := Below.refl _ _
  go_enter Try.func15, Try.ntmps15
  go_wp2
  go_loopw [7, 12] (fun vo vi wr => ∃ k : Nat, k ≤ l.length ∧ vi = .int .i64 k ∧ Hid (OwnS wr w.heap.size vo (slcL (l.take k) f t)) ∧ Hid (Below w.heap.size w wr)) (fun _ vi _ => l.length - (intOf vi).toNat)
  case atStart => exact ⟨0, by omega, rfl, O0, B0⟩
  case round =>
    clear O0 B0
    obtain ⟨k, hk, rfl, HO, HB⟩ := hrel
    by_cases hlt : k < l.length
    · obtain ⟨bl, off, rfl, hbl, h1', h2'⟩ := HA.out.at_ hlt
      have h1 := (HB.out.cell (p := ⟨bl, off + k * 2, none⟩) hbl).trans h1'
      have h2 := (HB.out.cell (p := ⟨bl, off + k * 2 + 1, none⟩) hbl).trans h2'
      have hki : (k : Int) < l.length := by omega
      clear h1' h2'
      by_cases hb : f < l[k].1 ∧ l[k].1 ≤ t
      · have HE := Lib.hid (slc_yes hlt hb.1 hb.2)
        obtain ⟨hb1, hb2⟩ := hb
        obtain ⟨m, hm⟩ : ∃ m, slcL (l.take k) f t = m := ⟨_, rfl⟩
        have hml : m.length ≤ l.length := by rw [← hm]; exact Nat.le_trans (slc_len _ _ _) (List.length_take_le' _ _)
        rw [hm] at HO HE
        clear hm
        generalize l[k] = x at *
        obtain ⟨A6, c6, e6, _⟩ := HO.out.form
        subst e6
        have O1 : Hid (∀ o1 o2, OwnS ((wr.alloc o1).alloc o2) w.heap.size (.slice A6 m.length c6) m) := Lib.hid fun o1 o2 => HO.out.below (((Below.refl _ _).alloc (Nat.le_refl _) _).alloc (by simp) _)
        have R1 : Hid (∀ o1, Reads ((wr.alloc o1).alloc (.cells #[.int .i64 x.1, .int .i64 x.2] 33)) (wr.heap.size + 2) 2 (some ⟨wr.heap.size + 1, 0, none⟩) 1 (cellsL [x])) := Lib.hid fun o1 => by
          refine (LS.of_reads (B := wr.heap.size + 2) (b := wr.heap.size + 1) (off := 0) (l := [x]) (by omega) fun j hj => ?_).reads
          have : j = 0 := by simpa using hj
          subst this
          exact ⟨by go_simp, by go_simp⟩
        go_wp2_with (at_builtin; refine wpList_append_any _ rfl (.tmp 26) (.tmp 28) 22 rfl w.heap.size 33 i0 _ 2 16 Try.underlying22 hi hz0 hz1 hz2 rfl (by decide) (.slice A6 m.length c6) m.length (cellsL m) rfl (O1.out _ _) (wr.heap.size + 2) (some ⟨wr.heap.size + 1, 0, none⟩) 1 1 (cellsL [x]) rfl (R1.out _) (cellsL_one' _) (by simp only [maxLen]; omega) (by omega) (by have := HB.out.size; simp; omega) ?_; intro v' w1 hown' hgrow _; have HO' := Lib.hid hown'; have HG := Lib.hid hgrow; clear hown' hgrow)
        have B1 : Hid (Below w.heap.size w w1) := ((HB.out.alloc HB.out.size _).alloc (by have := HB.out.size; simp; omega) _).grown HG.out (by have := HB.out.size; simp; omega) (fun g e => (World.ownsRow.lt HO.out g e).1)
        go_roundw
        case rel => exact ⟨k + 1, by omega, by go_num, by rw [HE.out]; exact ownS_snoc HO'.out, B1⟩
        case measure => simp [intOf]; omega
      · have HE := Lib.hid (slc_no hlt hb)
        have HO2 : Hid (∀ o1, OwnS (wr.alloc o1) w.heap.size u7 (slcL (l.take (k + 1)) f t)) := Lib.hid fun o1 => by rw [HE.out]; exact HO.out.below ((Below.refl _ _).alloc (Nat.le_refl _) _)
        have B2 : Hid (∀ o1, Below w.heap.size w (wr.alloc o1)) := Lib.hid fun o1 => HB.out.alloc HB.out.size _
        clear HE HO
        by_cases hb1 : f < l[k].1
        · have hb2 : ¬ l[k].1 ≤ t := fun h => hb ⟨hb1, h⟩
          clear hb
          go_wp2
          go_roundw
          case rel => exact ⟨k + 1, by omega, by go_num, HO2.out _, B2.out _⟩
          case measure => simp [intOf]; omega
        · clear hb
          go_wp2
          go_roundw
          case rel => exact ⟨k + 1, by omega, by go_num, HO2.out _, B2.out _⟩
          case measure => simp [intOf]; omega
    · have HO2 : Hid (OwnS wr w.heap.size u7 (slcL l f t)) := by
        have h := HO.out
        rw [List.take_of_length_le (by omega)] at h
        exact h
      have hki : ¬ (k : Int) < l.length := by omega
      clear HO
      go_wp2
      go_ret
      exact ⟨_, rfl, HO2.out, HB.out⟩
end Go.Proofs.Ytobipbedkkmlcaa.Sr
