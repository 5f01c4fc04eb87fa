/- Layer 10: the map of indices. -/
import Derived.Maps.Own
import Derived.Maps.OwnSet
import Derived.Maps.Views
import Derived.Maps.Keyed
import Derived.StringKeys
import Derived.Test.YtpinmmmbmhfmiaaDuD
set_option linter.unusedVariables false
set_option linter.unusedSimpArgs false
namespace Go.Proofs.Ytpinmmmbmhfmiaa.Dt
open Go.RowKit Dc Go.Maps
/-- The map at b says where each of the first k strings stands. -/
def IdxM (w : World) (b : Nat) (d : List BA) (k : Nat) : Prop :=
  ∃ D : DataW Unit, w.ownsMap Try.prog 9 (plainElem Try.prog 3) b k D ∧ ∀ j (h : j < d.length), j < k → D.atKey (.string d[j].data.toList) (.lit (.int .i64 0)) = .lit (.int .i64 j)
theorem IdxM.kept {w w' : World} {b k : Nat} {d : List BA} {row : Option Nat} (h : IdxM w b d k) (hg : w.grownBy w' row) (hne : some b ≠ row) : IdxM w' b d k := by
  obtain ⟨D, h1, h2⟩ := h
  exact ⟨D, h1.kept hg hne, h2⟩
theorem IdxM.same {w w' : World} {b k : Nat} {d : List BA} (h : IdxM w b d k) (he : w'.heap[b]? = w.heap[b]?) : IdxM w' b d k := by
  obtain ⟨D, ⟨es, clock, hb, F, hs, hD⟩, h2⟩ := h
  exact ⟨D, ⟨es, clock, he.trans hb, F, hs, hD⟩, h2⟩
theorem IdxM.lt {w : World} {b k : Nat} {d : List BA} (h : IdxM w b d k) : b < w.heap.size := by
  obtain ⟨D, h1, _⟩ := h
  exact h1.lt
theorem IdxM.new (w : World) (d : List BA) : IdxM (w.alloc (.map #[] 0)) w.heap.size d 0 := ⟨_, World.ownsMap_made _ _ _ _, fun j h h2 => absurd h2 (Nat.not_lt_zero _)⟩
theorem wf_nat {k : Nat} (h : k ≤ 1152921504606846976) : (Lit.int .i64 (k : Int)).wf = true := WalkArith.wf_i64 (n := (k : Int)) ⟨by omega, by omega⟩
theorem key_of {x : BA} (h : x.size ≤ 1000) : keyOf Try.prog 9 (.string x) = some (.string x.data.toList) := Go.WideMaps.keyOf_string_mk Try.underlying9 (by simp only [maxLen]; omega)
theorem IdxM.look {w : World} {b : Nat} {d : List BA} (h : IdxM w b d d.length) {j : Nat} (hj : j < d.length) (hs : d[j].size ≤ 1000) : (Instr.lookup 70 (.map (some b)) (.string d[j]) false).run Try.prog w = .ok (.int .i64 j) w := by
  obtain ⟨D, h1, h2⟩ := h
  obtain ⟨c, hrun, hat, _⟩ := h1.lookup_int (Maps.string_keyed Try.underlying9) Try.underlying70 Try.underlying3 (Try.zeroValue3 _) (key_of hs)
  have h3 := h2 j hj hj
  rw [h3] at hat
  have e : (j : Int) = c := by
    have := hat
    simp only [DataW.lit.injEq, Lit.int.injEq, true_and] at this
    exact this
  rw [e]
  exact hrun
set_option maxHeartbeats 1000000 in
set_option maxRecDepth 100000 in
theorem indices_any (d : List BA) (hd : d.length ≤ 100000) (hn : d.Nodup) (hs : ∀ x ∈ d, x.size ≤ 1000) (lv : Value) (w : World) (hI : StrsAt w.heap.size w lv d) :
    Calls Try.prog 54 #[lv] w fun e w' => e = .returned (.map (some w.heap.size)) ∧ IdxM w' w.heap.size d d.length ∧ Below w.heap.size w w' := by
  obtain ⟨a, cap, rfl, hcx⟩ := hI
  have HX := Lib.hid hcx
  have HS := Lib.hid hs
  have HN := Lib.hid hn
  have hmm := @run_makeMap Try.prog
  clear hcx hs hn
  go_enter Try.func54, Try.ntmps54
  go_wp2
  go_loopw [9] (fun vi wr => ∃ k : Nat, k ≤ d.length ∧ vi = .int .i64 k ∧ Hid (IdxM wr w.heap.size d k) ∧ Hid (Below w.heap.size w wr))
    (fun vi _ => d.length - (intOf vi).toNat)
  case atStart => exact ⟨0, Nat.zero_le _, rfl, Lib.hid (IdxM.new w d), Lib.hid ((Below.refl _ _).alloc (Nat.le_refl _) _)⟩
  case round =>
    obtain ⟨k, hk, rfl, HM, HB⟩ := hrel
    clear hmm
    by_cases hlt : k < d.length
    · obtain ⟨b, off, rfl, hb, hc⟩ := HX.out (by omega)
      have hcell : wr.cell? ⟨b, off + k, none⟩ = some (.string (d[k]?.getD ⟨#[]⟩)) := (HB.out.cell (p := ⟨b, off + k, none⟩) hb).trans (hc k hlt)
      rw [at_get hlt] at hcell
      have hik : (k : Int) < d.length := by omega
      have hkey := key_of (HS.out d[k] (List.getElem_mem hlt))
      obtain ⟨D, hown, hat⟩ := HM.out
      have HP : Hid (∀ W, W.ownsMap Try.prog 9 (plainElem Try.prog 3) w.heap.size (k + 1) (D.put (.string d[k].data.toList) (.lit (.int .i64 k))) → IdxM W w.heap.size d (k + 1)) := Lib.hid fun W h => by
        refine ⟨_, h, fun j hj hj2 => ?_⟩
        by_cases e : j = k
        · subst e
          exact atKey_put_same (k := .string d[j].data.toList) hown.isMap trivial _ _
        · have hne : (Lit.string d[j].data.toList) ≠ Lit.string d[k].data.toList := fun h2 => by
            have h3 : d[j].data.toList = d[k].data.toList := by simpa using h2
            have h4 : d[j] = d[k] := by rw [← mk_data d[j], h3, mk_data]
            exact e ((List.getElem_inj HN.out).1 h4)
          rw [atKey_put_other hne]
          exact hat j hj (by omega)
      have HK := Lib.hid hkey
      have HO := Lib.hid hown
      generalize d[k] = x at *
      clear hc hat hown HM hkey
      go_wp2_with (at_mapUpdate; refine wpList_mapUpdate_own _ rfl _ _ _ 70 rfl 9 3 (Maps.string_keyed Try.underlying9) Try.underlying70 _ w.heap.size k D rfl HO.out (by simp only [maxLen]; omega) _ _ (.string x.data.toList) rfl rfl HK.out _ [] (plainElem_int Try.underlying3 (wf_nat (k := k) (by omega))) ?_)
      intro w1 hown1 hgrow1
      have R1 := Lib.hid (HP.out w1 hown1)
      have R2 : Hid (Below w.heap.size w w1) := Lib.hid (HB.out.grown hgrow1 HB.out.size (fun j hj => by cases hj; exact Nat.le_refl _))
      clear hown1 hgrow1 HO HP HB hcell
      go_wp2
      go_roundw
      case rel => exact ⟨k + 1, by omega, by go_num, R1, R2⟩
      case measure => simp [intOf]; omega
    · obtain rfl : k = d.length := by omega
      go_wp2
      go_ret
      exact ⟨rfl, HM.out, HB.out⟩
end Go.Proofs.Ytpinmmmbmhfmiaa.Dt
