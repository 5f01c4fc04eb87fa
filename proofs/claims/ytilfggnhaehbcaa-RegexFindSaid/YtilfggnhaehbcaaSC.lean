/- Layer 6: what the laws ask beside: great, HasPrefix, awake. -/
import Derived.Lib.QuietBelow
import Derived.BigQuiet
import Derived.Test.YtilfggnhaehbcaaSB
set_option linter.unusedVariables false
set_option linter.unusedSimpArgs false
namespace Go.Proofs.Ytilfggnhaehbcaa.Rx
open Go.RowKit
/-- Whether the strings are too long for the laws. -/
def greatS (s : ByteArray) (l : List ByteArray) : Bool := l.any (fun p => decide (210 < p.size)) || decide (40 < s.size)
def SameP (b : Bool) (w : World) (e : Ending) (w' : World) : Prop := e = .returned (.bool b) ∧ w = w'
set_option maxHeartbeats 4000000 in
set_option maxRecDepth 100000 in
theorem great_any (s : ByteArray) (hs : s.size ≤ maxLen) (l : List ByteArray) (hl : l.length ≤ 3) (hl2 : ∀ p ∈ l, p.size ≤ maxLen) (b c : Nat) (w : World) (h : ∀ j (hj : j < l.length), w.cell? ⟨b, j, none⟩ = some (.string l[j])) :
    Calls Try.prog 13 #[.string s, .slice (some ⟨b, 0, none⟩) l.length c] w (SameP (greatS s l) w) := by
  have HC := Lib.hid h
  have HL := Lib.hid hl2
  clear h hl2
  unfold maxLen at hs
  go_enter Try.func13, Try.ntmps13
  go_wp2
  go_loop [9] (fun i => ∃ k : Nat, k ≤ l.length ∧ i = .int .i64 k ∧ Hid (greatS s l = greatS s (l.drop k))) (fun i => l.length - (intOf i).toNat)
  case atStart => exact ⟨0, by omega, rfl, rfl⟩
  case round =>
    obtain ⟨k, hk, rfl, HG⟩ := hrel
    by_cases hlt : k < l.length
    · have h1 := HC.out k hlt
      have h2 := HL.out _ (List.getElem_mem hlt)
      unfold maxLen at h2
      have HD : Hid (l.drop k = l[k] :: l.drop (k + 1)) := List.drop_eq_getElem_cons hlt
      generalize l[k] = p at *
      by_cases hp : 210 < p.size
      · have hp' : (210 : Int) < (p.size : Int) := by omega
        have HE : Hid (greatS s l = true) := by
          show _ = _
          rw [HG.out, HD.out]
          simp [greatS, hp]
        clear HG HD hp
        go_wp2
        go_ret
        exact ⟨by rw [HE.out]; rfl, rfl⟩
      · have hp' : ¬ ((210 : Int) < (p.size : Int)) := by omega
        have HE : Hid (greatS s l = greatS s (l.drop (k + 1))) := by
          show _ = _
          rw [HG.out, HD.out]
          simp [greatS, hp]
        clear HG HD hp
        go_wp2
        go_round
        case rel => exact ⟨k + 1, by omega, by go_num, HE⟩
        case measure => simp [intOf]; omega
    · obtain rfl : k = l.length := by omega
      have HE : Hid (greatS s l = decide (40 < s.size)) := by
        show _ = _
        rw [HG.out, List.drop_of_length_le (Nat.le_refl _)]
        simp [greatS]
      clear HG
      by_cases hp : 40 < s.size
      · have hp' : (40 : Int) < (s.size : Int) := by omega
        go_wp2
        go_ret
        exact ⟨by rw [HE.out, decide_eq_true hp]; rfl, rfl⟩
      · have hp' : ¬ ((40 : Int) < (s.size : Int)) := by omega
        go_wp2
        go_ret
        exact ⟨by rw [HE.out, decide_eq_false hp]; rfl, rfl⟩
theorem bytes_list (a : ByteArray) : a.toList = a.data.toList := ByteArray.toList_eq a
theorem str_eq (a b : ByteArray) : (a.toList == b.toList) = decide (a.data.toList = b.data.toList) := by
  rw [bytes_list, bytes_list, Bool.eq_iff_iff]
  simp
/-- Whether s begins with u. -/
def pfxS (s u : ByteArray) : Bool := u.data.toList.isPrefixOf s.data.toList
theorem pfx_yes {s u : ByteArray} (h : u.size ≤ s.size) : ((s.extract 0 u.size).toList == u.toList) = pfxS s u := by
  rw [str_eq]
  unfold pfxS
  rw [Bool.eq_iff_iff, decide_eq_true_iff, List.isPrefixOf_iff_prefix]
  have e : (s.extract 0 u.size).data.toList = s.data.toList.take u.data.toList.length := by
    rw [size_len]
    simp [ByteArray.data_extract]
  rw [e]
  constructor
  · intro h1
    exact ⟨_, by rw [← h1]; exact List.take_append_drop _ _⟩
  · rintro ⟨t, h1⟩
    rw [← h1]
    simp
theorem pfx_no {s u : ByteArray} (h : ¬ u.size ≤ s.size) : pfxS s u = false := by
  unfold pfxS
  rw [← Bool.not_eq_true, List.isPrefixOf_iff_prefix]
  intro hp
  have := hp.length_le
  rw [size_len, size_len] at this
  exact h this
set_option maxHeartbeats 4000000 in
set_option maxRecDepth 100000 in
theorem hasPrefix36 (s u : ByteArray) (hs : s.size ≤ maxLen) (hu : u.size ≤ maxLen) (w : World) : Calls Try.prog 36 #[.string s, .string u] w (SameP (pfxS s u) w) := by
  unfold maxLen at hs hu
  by_cases h : u.size ≤ s.size
  · have h' : (u.size : Int) ≤ (s.size : Int) := by omega
    have HE := Lib.hid (pfx_yes h)
    go_enter Try.func36, Try.ntmps36
    go_wp2
    go_ret
    exact ⟨by rw [← HE.out]; rfl, rfl⟩
  · have h' : ¬ ((u.size : Int) ≤ (s.size : Int)) := by omega
    have HE := Lib.hid (pfx_no h)
    go_enter Try.func36, Try.ntmps36
    go_wp2
    go_ret
    exact ⟨by rw [HE.out]; rfl, rfl⟩
set_option maxHeartbeats 4000000 in
set_option maxRecDepth 100000 in
theorem hasPrefix_any (s u : ByteArray) (hs : s.size ≤ maxLen) (hu : u.size ≤ maxLen) (w : World) : Calls Try.prog 27 #[.string s, .string u] w (SameP (pfxS s u) w) := by
  go_enter Try.func27, Try.ntmps27
  go_wp2_with (go_at_call 36; (with_reducible refine (hasPrefix36 s u hs hu _).mono ?_); rintro e wz ⟨rfl, rfl⟩)
  go_ret
  exact ⟨rfl, rfl⟩
/-- All places of a text, one after the other. -/
def passes (M : List Nd) (f0 : Nat) (s : List UInt8) (last : Nat) : Nat → List (Nat × Nat) × (Nat × Nat) × Bool
  | 0 => ([], (0, 0), false)
  | p + 1 =>
    let x := passes M f0 s last p
    let R := pass M s f0 last p x.1 x.2.1 x.2.2
    (R.lat, R.bs, R.fd)
theorem passes_inv (e : List (List Pe)) (s : List UInt8) (last : Nat) : ∀ p, p ≤ s.length + 1 → Inv (pm e) (ps e) s last p (passes (pm e) (ps e) s last p).1 (passes (pm e) (ps e) s last p).2.1 (passes (pm e) (ps e) s last p).2.2
  | 0, _ => Inv.start _ _ _ _
  | p + 1, h => pm_step (passes_inv e s last p (by omega)) (by omega)
theorem passes_res {e : List (List Pe)} {s : List UInt8} {last : Nat} {L : List (Nat × Nat)} {bs : Nat × Nat} {fd : Bool} (h : passes (pm e) (ps e) s last (s.length + 1) = (L, bs, fd)) : Res (.alt (reE e)) s last bs fd := by
  have h1 := passes_inv e s last (s.length + 1) (Nat.le_refl _)
  rw [h] at h1
  exact h1.end_ (Nat.le_refl _) (.inl rfl)
/-- Two searches of one text find the same. -/
theorem Res.same {r : Re} {s : List UInt8} {last : Nat} {bs bs' : Nat × Nat} {fd fd' : Bool} (h : Res r s last bs fd) (k : Res r s last bs' fd') : bs = bs' ∧ fd = fd' := by
  cases hf : fd with
  | true =>
    subst hf
    have h1 := h.fnd rfl
    have h2 := k.opt bs.1 bs.2 h1.2.2.1 h1.1 h1.2.1 h1.2.2.2
    have h3 := k.fnd h2.1
    have h4 := h.opt bs'.1 bs'.2 h3.2.2.1 h3.1 h3.2.1 h3.2.2.2
    refine ⟨Prod.ext ?_ ?_, h2.1.symm⟩ <;> omega
  | false =>
    subst hf
    cases hf' : fd' with
    | true =>
      subst hf'
      have h1 := k.fnd rfl
      have h2 := h.opt bs'.1 bs'.2 h1.2.2.1 h1.1 h1.2.1 h1.2.2.2
      cases h2.1
    | false =>
      subst hf'
      exact ⟨(h.zro rfl).trans (k.zro rfl).symm, rfl⟩
/-! The chapter's example. -/
def aBP : ByteArray := ⟨#[98, 43]⟩
def aBS : ByteArray := ⟨#[97, 98, 98, 97, 98, 98, 98]⟩
def aMP : ByteArray := ⟨#[97, 40, 98, 124, 99, 41, 42, 100]⟩
def aMS : ByteArray := ⟨#[97, 99, 98, 99, 100]⟩
def aMT : ByteArray := ⟨#[97, 98, 99]⟩
def eB : List (List Pe) := [[.byte 98 .plus]]
def eM : List (List Pe) := [[.byte 97 .one, .sub [[.byte 98 .one], [.byte 99 .one]] .star, .byte 100 .one]]
theorem eB_parse : parse aBP.data.toList = some (.alt (reE eB)) := by kernel_rfl
theorem eM_parse : parse aMP.data.toList = some (.alt (reE eM)) := by kernel_rfl
theorem eB_check : check aBP.data.toList = 0 := by kernel_rfl
theorem eM_check : check aMP.data.toList = 0 := by kernel_rfl
theorem eB_run : passes (pm eB) (ps eB) aBS.data.toList 7 (aBS.data.toList.length + 1) = ([], (1, 3), true) := by kernel_rfl
theorem eM_run : (passes (pm eM) (ps eM) aMS.data.toList 0 (aMS.data.toList.length + 1)).2 = ((0, 5), true) := by kernel_rfl
theorem eM_run2 : (passes (pm eM) (ps eM) aMT.data.toList 0 (aMT.data.toList.length + 1)).2 = ((0, 0), false) := by kernel_rfl
theorem aw_find (V : World) : Calls Try.prog 25 #[.string ⟨#[98, 43]⟩, .string ⟨#[97, 98, 98, 97, 98, 98, 98]⟩] V fun e w' => e = .returned (.tuple #[.agg #[.int .i64 1, .int .i64 3], .bool true]) ∧ Below V.heap.size V w' :=
  (find_any aBP aBS (by decide) (by decide) V).mono fun e w' ⟨bs, fd, he, hr, hb⟩ => by
    rcases hr.out with ⟨h1, _⟩ | ⟨r, _, h2, h3⟩
    · exact absurd eB_check h1
    · rw [eB_parse] at h2
      cases h2
      obtain ⟨rfl, rfl⟩ := h3.same (passes_res eB_run)
      exact ⟨he, hb⟩
theorem aw_match (V : World) : Calls Try.prog 23 #[.string ⟨#[97, 40, 98, 124, 99, 41, 42, 100]⟩, .string ⟨#[97, 99, 98, 99, 100]⟩] V fun e w' => e = .returned (.bool true) ∧ Below V.heap.size V w' :=
  (match_any aMP aMS (by decide) (by decide) V).mono fun e w' ⟨b, he, hr, hb⟩ => by
    have h : MatS aMP.data.toList aMS.data.toList := ⟨_, eM_check, eM_parse, (passes_res (L := (passes (pm eM) (ps eM) aMS.data.toList 0 (aMS.data.toList.length + 1)).1) (Prod.ext rfl eM_run)).whole.1 ⟨rfl, by kernel_rfl⟩⟩
    rw [hr.out.2 h] at he
    exact ⟨he, hb⟩
theorem aw_match2 (V : World) : Calls Try.prog 23 #[.string ⟨#[97, 40, 98, 124, 99, 41, 42, 100]⟩, .string ⟨#[97, 98, 99]⟩] V fun e w' => e = .returned (.bool false) ∧ Below V.heap.size V w' :=
  (match_any aMP aMT (by decide) (by decide) V).mono fun e w' ⟨b, he, hr, hb⟩ => by
    have h : ¬ MatS aMP.data.toList aMT.data.toList := fun ⟨r, _, h2, h3⟩ => by
      rw [eM_parse] at h2
      cases h2
      have := ((passes_res (L := (passes (pm eM) (ps eM) aMT.data.toList 0 (aMT.data.toList.length + 1)).1) (Prod.ext rfl eM_run2)).whole.2 h3).1
      cases this
    cases b with
    | false => exact ⟨he, hb⟩
    | true => exact absurd (hr.out.1 rfl) h
theorem aw_prefix (V : World) : Calls Try.prog 15 #[.string ⟨#[97, 98, 46, 99]⟩] V fun e w' => e = .returned (.tuple #[.string ⟨#[97, 98]⟩, .bool false]) ∧ Below V.heap.size V w' :=
  (prefix_any ⟨#[97, 98, 46, 99]⟩ (by decide) V).mono fun e w' ⟨u, all, he, hb, hp⟩ => by
    have h : pre (⟨#[97, 98, 46, 99]⟩ : ByteArray).data.toList = ([97, 98], false) := by kernel_rfl
    have hp := hp.out
    rw [h] at hp
    injection hp with h1 h2
    subst h2
    have : u = ⟨#[97, 98]⟩ := by
      apply ByteArray.ext
      apply Array.toList_inj.1
      exact h1.symm
    subst this
    exact ⟨he, hb⟩
theorem aw_quote (V : World) : Calls Try.prog 19 #[.string ⟨#[97, 46, 98]⟩] V fun e w' => e = .returned (.string ⟨#[97, 92, 46, 98]⟩) ∧ Below V.heap.size V w' :=
  (quote_any ⟨#[97, 46, 98]⟩ (by decide) V).mono fun e w' ⟨he, hb⟩ => ⟨he, hb⟩
theorem aw_check (V : World) : Calls Try.prog 17 #[.string ⟨#[97, 42, 42]⟩] V fun e w' => e = .returned (.int .i64 3) ∧ Below V.heap.size V w' :=
  (check_any ⟨#[97, 42, 42]⟩ (by decide) V).mono fun e w' ⟨he, hb⟩ => by
    have h : check (⟨#[97, 42, 42]⟩ : ByteArray).data.toList = 3 := by kernel_rfl
    rw [h] at he
    exact ⟨he, hb⟩
end Go.Proofs.Ytilfggnhaehbcaa.Rx
