/- Layer 8: the library's Concat at lists of numbers. -/
import Derived.Test.YtejnmjaclhmelaaSN
set_option linter.unusedVariables false
set_option linter.unusedSimpArgs false
namespace Go.Proofs.Ytejnmjaclhmelaa.Po
open Go.RowKit
theorem tot_succ {ls : List (List Int)} {k : Nat} (h : k < ls.length) : tot (ls.take (k + 1)) = tot (ls.take k) + (ls[k]?.getD []).length := by
  have e : ls.take (k + 1) = ls.take k ++ [ls[k]?.getD []] := by rw [List.take_add_one, List.getElem?_eq_getElem h]; rfl
  rw [e]
  unfold tot
  rw [List.map_append, List.sum_append]
  simp
theorem flat_succ {ls : List (List Int)} {k : Nat} (h : k < ls.length) : (ls.take (k + 1)).flatten = (ls.take k).flatten ++ (ls[k]?.getD []) := by
  have e : ls.take (k + 1) = ls.take k ++ [ls[k]?.getD []] := by rw [List.take_add_one, List.getElem?_eq_getElem h]; rfl
  rw [e, List.flatten_append]
  simp
theorem flat_len (ls : List (List Int)) : ls.flatten.length = tot ls := by
  unfold tot
  rw [List.length_flatten]
theorem ic_app (a b : List Int) : ic a ++ ic b = ic (a ++ b) := by unfold ic; rw [List.map_append]
theorem Ints.reads {B : Nat} {w : World} {v : Value} {l : List Int} (h : Ints B w v l) : ∃ A c, v = .slice A l.length c ∧ Reads w B 1 A l.length (ic l) := by
  obtain ⟨A, c, e, h⟩ := h
  exact ⟨A, c, e, h.reads⟩
set_option maxHeartbeats 4000000 in
set_option maxRecDepth 100000 in
theorem concat_any (ls : List (List Int)) (hn : ls.length ≤ 1000000) (hl : tot ls ≤ 1000000) (sv : Value) (w : World) (hI : IntsL w.heap.size w sv ls) :
    Calls Try.prog 31 #[sv] w (IntsOut w ls.flatten) := by
  obtain ⟨i0, hi, hz0, hz1, hz2⟩ := info_parts infoI
  obtain ⟨a, cap, rfl, V, h1, h2⟩ := hI
  have HC := Lib.hid h1
  have HV := Lib.hid h2
  clear h1 h2
  have KG : Hid (∀ (n : Nat) (v : World), n ≤ 1000000 → Calls Try.prog 50 #[.slice none 0 0, .int .i64 n] v fun e w' => ∃ v', e = .returned v' ∧ w'.ownsRow v.heap.size 3 1 v' 0 [] ∧ Below v.heap.size v w') := Lib.hid fun n v h => growN_any n h v
  have TS := Lib.hid (fun k => @tot_succ ls k)
  have FS := Lib.hid (fun k => @flat_succ ls k)
  have ht : ∀ k, tot (ls.take k) ≤ 1000000 := fun k => Nat.le_trans (tot_take ls k) hl
  have HT := Lib.hid ht
  have he : ls.take ls.length = ls := List.take_of_length_le (Nat.le_refl _)
  have HE := Lib.hid he
  clear ht he
  have hflat : ∀ k, (ls.take k).flatten.length ≤ 1000000 := fun k => by rw [flat_len]; exact HT.out k
  have HF := Lib.hid hflat
  clear hflat
  go_enter Try.func31, Try.ntmps31
  go_wp2
  go_loop [3, 11] (fun vs vi => ∃ k : Nat, k ≤ ls.length ∧ vi = .int .i64 k ∧ vs = .int .i64 (tot (ls.take k) : Nat)) (fun _ vi => ls.length - (intOf vi).toNat)
  case atStart => exact ⟨0, Nat.zero_le _, rfl, rfl⟩
  case round =>
    obtain ⟨k, hk, rfl, rfl⟩ := hrel
    by_cases hlt : k < ls.length
    · obtain ⟨b, o, rfl, hb, hc⟩ := HC.out (by omega)
      have hcell := hc k hlt
      obtain ⟨A, c, ev, _⟩ := (HV.out k hlt).reads
      rw [ev] at hcell
      have hi' : (k : Int) < ls.length := by omega
      have h1 := HT.out k
      have h2 := HT.out (k + 1)
      have h3 := Lib.hid (TS.out k hlt)
      rw [h3.out] at h2
      clear hc ev
      generalize (ls[k]?.getD []).length = m at *
      obtain ⟨t, hte⟩ : ∃ t, tot (ls.take k) = t := ⟨_, rfl⟩
      rw [hte] at h1 h2 h3 ⊢
      clear hte
      have g1 : ¬ ((t : Int) + (m : Int)) < 0 := by omega
      have g2 : wrap64 ((t : Int) + (m : Int)) = (t : Int) + (m : Int) := by unfold wrap64; omega
      go_wp2
      go_round
      case rel => exact ⟨k + 1, by omega, by go_num, by rw [h3.out]; go_num⟩
      case measure => simp [intOf]; omega
    · have hke : k = ls.length := by omega
      have h1 := HT.out k
      have hnlt : ¬ (k : Int) < ls.length := by omega
      generalize tot (ls.take k) = t at *
      clear hke
      go_wp2_with fail
      refine (KG.out t _ h1).mono ?_
      rintro e w1 ⟨v1, rfl, ho1, hb1⟩
      have O1 := Lib.hid ho1
      have B1 := Lib.hid hb1
      clear ho1 hb1 KG TS
      go_wp2
      go_loopw [6, 27] (fun vo vi wr => ∃ k2 : Nat, k2 ≤ ls.length ∧ vi = .int .i64 k2 ∧ Hid (wr.ownsRow w.heap.size 3 1 vo (ls.take k2).flatten.length (ic (ls.take k2).flatten)) ∧ Hid (Below w.heap.size w wr))
        (fun _ vi _ => ls.length - (intOf vi).toNat)
      case atStart => exact ⟨0, Nat.zero_le _, rfl, O1, B1⟩
      case round =>
        clear O1 B1
        obtain ⟨j, hj, rfl, HO, HB⟩ := hrel
        by_cases hlt2 : j < ls.length
        · obtain ⟨b, o, rfl, hb, hc⟩ := HC.out (by omega)
          have hcell := (HB.out.cell (p := ⟨b, o + j, none⟩) (by simp; omega)).trans (hc j hlt2)
          obtain ⟨A, c, ev, hR⟩ := ((HV.out j hlt2).onto HB.out).reads
          rw [ev] at hcell
          have hi' : (j : Int) < ls.length := by omega
          have hF1 := HF.out j
          have hF2 := HF.out (j + 1)
          have FE := Lib.hid (FS.out j hlt2)
          have RE := Lib.hid hR
          rw [FE.out, List.length_append] at hF2
          obtain ⟨A6, c6, e6⟩ := own_form HO.out
          subst e6
          clear hc ev hR
          generalize ls[j]?.getD [] = l at *
          generalize (ls.take j).flatten = acc at *
          have H1 := Lib.hid (ic_one l)
          go_wp2_with (at_builtin; refine wpList_append_any _ rfl (.tmp 31) (.tmp 32) 22 rfl w.heap.size 3 i0 _ 1 8 Try.underlying22 hi hz0 hz1 hz2 rfl (by decide) (.slice A6 acc.length c6) acc.length (ic acc) rfl HO.out wr.heap.size A l.length c (ic l) rfl RE.out H1.out (by simp only [maxLen]; omega) (by omega) (by have := HB.out.size; omega) ?_; intro v5 w5 ho hg _; have O5 := Lib.hid ho; have B5 := Lib.hid (HB.out.grown hg (by have := HB.out.size; omega) (fun g e => (World.ownsRow.lt HO.out g e).1)); clear ho hg)
          go_roundw
          case rel =>
            refine ⟨j + 1, by omega, by go_num, Lib.hid ?_, B5⟩
            rw [FE.out, List.length_append, ← ic_app]
            exact O5.out
          case measure => simp [intOf]; omega
        · have hje : j = ls.length := by omega
          have hnlt2 : ¬ (j : Int) < ls.length := by omega
          have hO : Hid (wr.ownsRow w.heap.size 3 1 u6 ls.flatten.length (ic ls.flatten)) := Lib.hid (by
            have := HO.out
            rw [hje, HE.out] at this
            exact this)
          clear HO hje
          go_wp2
          go_ret
          exact ⟨_, rfl, Ints.of_own hO.out (Nat.le_refl _), HB.out⟩
end Go.Proofs.Ytejnmjaclhmelaa.Po
