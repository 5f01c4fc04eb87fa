/- Layer 6: the walk of the law on prefixes. -/
import Derived.Test.YtilfggnhaehbcaaWQ
set_option linter.unusedVariables false
set_option linter.unusedSimpArgs false
namespace Go.Proofs.Ytilfggnhaehbcaa.Rx
open Go.RowKit
theorem great_no {s : ByteArray} {l : List ByteArray} (h : greatS s l = false) : (∀ p ∈ l, p.size ≤ 210) ∧ s.size ≤ 40 := by
  unfold greatS at h
  rw [Bool.or_eq_false_iff] at h
  refine ⟨fun p hp => ?_, ?_⟩
  · have := List.any_eq_false.1 h.1 p hp
    simpa using this
  · simpa using h.2
theorem great_one {s p : ByteArray} (hs : s.size ≤ maxLen) (hp : p.size ≤ maxLen) (b c : Nat) (w : World) (h : w.cell? ⟨b, 0, none⟩ = some (.string p)) : Calls Try.prog 13 #[.string s, .slice (some ⟨b, 0, none⟩) 1 c] w (SameP (greatS s [p]) w) :=
  great_any s hs [p] (by simp) (fun q hq => by rw [List.mem_singleton.1 hq]; exact hp) b c w (fun j hj => by
    match j, hj with
    | 0, _ => exact h)
theorem great_two {s p q : ByteArray} (hs : s.size ≤ maxLen) (hp : p.size ≤ maxLen) (hq : q.size ≤ maxLen) (b c : Nat) (w : World) (h : w.cell? ⟨b, 0, none⟩ = some (.string p)) (h1 : w.cell? ⟨b, 1, none⟩ = some (.string q)) : Calls Try.prog 13 #[.string s, .slice (some ⟨b, 0, none⟩) 2 c] w (SameP (greatS s [p, q]) w) :=
  great_any s hs [p, q] (by simp) (fun r hr => by
    rcases List.mem_cons.1 hr with rfl | hr
    · exact hp
    · rw [List.mem_singleton.1 hr]; exact hq) b c w (fun j hj => by
    match j, hj with
    | 0, _ => exact h
    | 1, _ => exact h1)
theorem check_parse {p : List UInt8} (h : check p = 0) : ∃ r, parse p = some r := (check_ok.1 h).2
theorem pe_first : ∀ (k : Nat) (outs now : List Re) (l : List UInt8) (n : Re) (r : List UInt8), pe k outs now l = some (n, r) → ∃ l' rest, n = .alt (outs ++ .cat l' :: rest) ∧ l'.length ≤ now.length + l.length
  | 0, _, _, _, _, _, h => by cases h
  | k + 1, outs, now, [], n, r, h => by cases h; exact ⟨now, [], rfl, by omega⟩
  | k + 1, outs, now, c :: l, n, r, h => by
    rw [pe] at h
    split at h
    · cases h; exact ⟨now, [], rfl, by omega⟩
    · split at h
      · obtain ⟨l', rest, h1, _⟩ := pe_first k _ _ l n r h
        exact ⟨now, .cat l' :: rest, by rw [h1]; simp, by omega⟩
      · cases ha : atom (pe k [] []) (c :: l) with
        | none => rw [ha] at h; cases h
        | some q =>
          obtain ⟨m, r1⟩ := q
          rw [ha] at h
          simp only at h
          cases hq : post m r1 with
          | none => rw [hq] at h; cases h
          | some q =>
            obtain ⟨m', r2⟩ := q
            rw [hq] at h
            simp only at h
            have h1 := atom_len (fun l n r h => pe_len k [] [] l n r h) ha
            have h2 := post_len hq
            obtain ⟨l', rest, h3, h4⟩ := pe_first k _ _ r2 n r h
            rw [List.length_append, List.length_singleton] at h4
            exact ⟨l', rest, h3, by omega⟩
theorem lead_len : ∀ l : List Re, (leadB l).1.length ≤ l.length
  | [] => Nat.le_refl _
  | .byte c :: l => by rw [leadB]; have := lead_len l; simp only [List.length_cons]; omega
  | .cls f :: l => Nat.zero_le _
  | .cat f :: l => Nat.zero_le _
  | .alt f :: l => Nat.zero_le _
  | .star f :: l => Nat.zero_le _
  | .plus f :: l => Nat.zero_le _
theorem prefix_len {p : List UInt8} {r : Re} (h : parse p = some r) : (prefix_ r).1.length ≤ p.length := by
  unfold parse at h
  split at h
  · rename_i q hq
    cases h
    obtain ⟨l', rest, h1, h2⟩ := pe_first _ _ _ _ _ _ hq
    rcases prefix_cases r with ⟨l, rfl, e⟩ | e
    · rw [e]
      have h3 := lead_len l
      injection h1 with h1
      injection h1 with h1 _
      injection h1 with h1
      subst h1
      simp at h2
      omega
    · rw [e]; exact Nat.zero_le _
  · cases h
theorem mat_is {p s : List UInt8} {r : Re} (h : check p = 0) (hp : parse p = some r) : MatS p s ↔ Mat r s := by
  constructor
  · rintro ⟨q, _, h1, h2⟩
    rw [hp] at h1
    cases h1
    exact h2
  · exact fun h2 => ⟨r, h, hp, h2⟩
set_option maxHeartbeats 4000000 in
set_option maxRecDepth 100000 in
theorem prefix_walk (p s : ByteArray) (hp : p.size ≤ maxLen) (hs : s.size ≤ maxLen) (w : World) : Calls Try.prog 11 #[.string p, .string s] w (EmpP true w) := by
  have KA := Lib.hid (fun V => awake_any V)
  have KG := Lib.hid (fun b c V (h : V.cell? ⟨b, 0, none⟩ = some (.string p)) => great_one hs hp b c V h)
  have B : Hid (Below w.heap.size w (w.alloc (.cells #[.string p] 9))) := (Below.refl _ _).alloc (Nat.le_refl _) _
  cases hg : greatS s [p] with
  | true =>
    rw [hg] at KG
    go_enter Try.func11, Try.ntmps11
    go_wp2_with (first
      | (go_at_call 13; (with_reducible refine (KG.out _ _ _ (by simp)).mono ?_); rintro e wz0 ⟨rfl, rfl⟩)
      | (go_at_call 14; (with_reducible refine (KA.out _).mono ?_); rintro e w9 ⟨rfl, b9⟩; replace B : Hid (Below w.heap.size w w9) := B.out.trans (b9.out.mono B.out.size); clear b9))
    go_ret
    exact ⟨rfl, B⟩
  | false =>
    rw [hg] at KG
    have h1 := (great_no hg).1 p (by simp)
    have h2 := (great_no hg).2
    by_cases hc : check p.data.toList = 0
    · obtain ⟨r, hr⟩ := check_parse hc
      have KC := Lib.hid (fun V => check_is hp hc V)
      obtain ⟨u, all, hu, ha⟩ : ∃ (u : ByteArray) (all : Bool), pre p.data.toList = (u.data.toList, all) ∧ ∀ V, Calls Try.prog 15 #[.string p] V fun e w' => e = .returned (.tuple #[.string u, .bool all]) ∧ Hid (Below V.heap.size V w') := by
        refine ⟨⟨(pre p.data.toList).1.toArray⟩, (pre p.data.toList).2, rfl, fun V => (prefix_any p hp V).mono fun e w' ⟨u, all, he, hb, hq⟩ => ?_⟩
        have hq := hq.out
        rw [hq]
        exact ⟨he, hb⟩
      have KP := Lib.hid ha
      rw [pre_yes hc hr] at hu
      have hul : u.size ≤ 210 := by
        have h := prefix_len hr
        rw [hu, size_len, size_len] at h
        omega
      obtain ⟨m, hm, hm2⟩ := match_exists p s hp (by omega)
      rw [mat_is hc hr] at hm
      obtain ⟨m2, hm3, hm4⟩ := match_exists p u hp (by omega)
      rw [mat_is hc hr] at hm3
      have KM := Lib.hid hm2
      have KU := Lib.hid hm4
      have KX := Lib.hid (fun V => hasPrefix_any s u hs (by unfold maxLen; omega) V)
      have X1 : m = true → pfxS s u = true := fun h => by
        have := prefix_mat (hm.1 h)
        rw [hu] at this
        exact List.isPrefixOf_iff_prefix.2 this
      have X2 : all = true → m2 = true ∧ m = (s.toList == u.toList) := fun h => by
        have h3 := prefix_all (r := r) (by rw [hu]; exact h)
        rw [hu] at h3
        refine ⟨hm3.2 ((h3 _).2 rfl), ?_⟩
        rw [str_eq, Bool.eq_iff_iff, hm, h3, decide_eq_true_iff]
      generalize pfxS s u = px at *
      have hX2 := Lib.hid X2
      clear hm hm2 hm3 hm4 ha hu hr hg X2
      cases m with
      | true =>
        obtain rfl : px = true := X1 rfl
        clear X1
        cases all with
        | true =>
          obtain ⟨rfl, he⟩ := hX2.out rfl
          obtain rfl : s = u := bytes_same (by rw [str_eq] at he; exact of_decide_eq_true he.symm)
          clear hX2 he
          go_enter Try.func11, Try.ntmps11
          go_wp2_with (first
            | (go_at_call 13; (with_reducible refine (KG.out _ _ _ (by simp)).mono ?_); rintro e wz0 ⟨rfl, rfl⟩)
            | (go_at_call 17; (with_reducible refine (KC.out _).mono ?_); rintro e w1 ⟨rfl, b1⟩; replace B : Hid (Below w.heap.size w w1) := B.out.trans (b1.out.mono B.out.size); clear b1)
            | (go_at_call 15; (with_reducible refine (KP.out _).mono ?_); rintro e w2 ⟨rfl, b2⟩; replace B : Hid (Below w.heap.size w w2) := B.out.trans (b2.out.mono B.out.size); clear b2)
            | (go_at_call 23; (with_reducible refine (KM.out _).mono ?_); rintro e w3 ⟨rfl, b3⟩; replace B : Hid (Below w.heap.size w w3) := B.out.trans (b3.out.mono B.out.size); clear b3)
            | (go_at_call 23; (with_reducible refine (KU.out _).mono ?_); rintro e w4 ⟨rfl, b4⟩; replace B : Hid (Below w.heap.size w w4) := B.out.trans (b4.out.mono B.out.size); clear b4)
            | (go_at_call 27; (with_reducible refine (KX.out _).mono ?_); rintro e wz5 ⟨rfl, rfl⟩)
            | (go_at_call 14; (with_reducible refine (KA.out _).mono ?_); rintro e w9 ⟨rfl, b9⟩; replace B : Hid (Below w.heap.size w w9) := B.out.trans (b9.out.mono B.out.size); clear b9))
          go_ret
          exact ⟨rfl, B⟩
        | false =>
          clear hX2
          go_enter Try.func11, Try.ntmps11
          go_wp2_with (first
            | (go_at_call 13; (with_reducible refine (KG.out _ _ _ (by simp)).mono ?_); rintro e wz0 ⟨rfl, rfl⟩)
            | (go_at_call 17; (with_reducible refine (KC.out _).mono ?_); rintro e w1 ⟨rfl, b1⟩; replace B : Hid (Below w.heap.size w w1) := B.out.trans (b1.out.mono B.out.size); clear b1)
            | (go_at_call 15; (with_reducible refine (KP.out _).mono ?_); rintro e w2 ⟨rfl, b2⟩; replace B : Hid (Below w.heap.size w w2) := B.out.trans (b2.out.mono B.out.size); clear b2)
            | (go_at_call 23; (with_reducible refine (KM.out _).mono ?_); rintro e w3 ⟨rfl, b3⟩; replace B : Hid (Below w.heap.size w w3) := B.out.trans (b3.out.mono B.out.size); clear b3)
            | (go_at_call 23; (with_reducible refine (KU.out _).mono ?_); rintro e w4 ⟨rfl, b4⟩; replace B : Hid (Below w.heap.size w w4) := B.out.trans (b4.out.mono B.out.size); clear b4)
            | (go_at_call 27; (with_reducible refine (KX.out _).mono ?_); rintro e wz5 ⟨rfl, rfl⟩)
            | (go_at_call 14; (with_reducible refine (KA.out _).mono ?_); rintro e w9 ⟨rfl, b9⟩; replace B : Hid (Below w.heap.size w w9) := B.out.trans (b9.out.mono B.out.size); clear b9))
          go_ret
          exact ⟨rfl, B⟩
      | false =>
        clear X1
        cases all with
        | true =>
          obtain ⟨rfl, he⟩ := hX2.out rfl
          replace he := he.symm
          clear hX2
          go_enter Try.func11, Try.ntmps11
          go_wp2_with (first
            | (go_at_call 13; (with_reducible refine (KG.out _ _ _ (by simp)).mono ?_); rintro e wz0 ⟨rfl, rfl⟩)
            | (go_at_call 17; (with_reducible refine (KC.out _).mono ?_); rintro e w1 ⟨rfl, b1⟩; replace B : Hid (Below w.heap.size w w1) := B.out.trans (b1.out.mono B.out.size); clear b1)
            | (go_at_call 15; (with_reducible refine (KP.out _).mono ?_); rintro e w2 ⟨rfl, b2⟩; replace B : Hid (Below w.heap.size w w2) := B.out.trans (b2.out.mono B.out.size); clear b2)
            | (go_at_call 23; (with_reducible refine (KM.out _).mono ?_); rintro e w3 ⟨rfl, b3⟩; replace B : Hid (Below w.heap.size w w3) := B.out.trans (b3.out.mono B.out.size); clear b3)
            | (go_at_call 23; (with_reducible refine (KU.out _).mono ?_); rintro e w4 ⟨rfl, b4⟩; replace B : Hid (Below w.heap.size w w4) := B.out.trans (b4.out.mono B.out.size); clear b4)
            | (go_at_call 27; (with_reducible refine (KX.out _).mono ?_); rintro e wz5 ⟨rfl, rfl⟩)
            | (go_at_call 14; (with_reducible refine (KA.out _).mono ?_); rintro e w9 ⟨rfl, b9⟩; replace B : Hid (Below w.heap.size w w9) := B.out.trans (b9.out.mono B.out.size); clear b9))
          go_ret
          exact ⟨rfl, B⟩
        | false =>
          clear hX2
          go_enter Try.func11, Try.ntmps11
          go_wp2_with (first
            | (go_at_call 13; (with_reducible refine (KG.out _ _ _ (by simp)).mono ?_); rintro e wz0 ⟨rfl, rfl⟩)
            | (go_at_call 17; (with_reducible refine (KC.out _).mono ?_); rintro e w1 ⟨rfl, b1⟩; replace B : Hid (Below w.heap.size w w1) := B.out.trans (b1.out.mono B.out.size); clear b1)
            | (go_at_call 15; (with_reducible refine (KP.out _).mono ?_); rintro e w2 ⟨rfl, b2⟩; replace B : Hid (Below w.heap.size w w2) := B.out.trans (b2.out.mono B.out.size); clear b2)
            | (go_at_call 23; (with_reducible refine (KM.out _).mono ?_); rintro e w3 ⟨rfl, b3⟩; replace B : Hid (Below w.heap.size w w3) := B.out.trans (b3.out.mono B.out.size); clear b3)
            | (go_at_call 23; (with_reducible refine (KU.out _).mono ?_); rintro e w4 ⟨rfl, b4⟩; replace B : Hid (Below w.heap.size w w4) := B.out.trans (b4.out.mono B.out.size); clear b4)
            | (go_at_call 27; (with_reducible refine (KX.out _).mono ?_); rintro e wz5 ⟨rfl, rfl⟩)
            | (go_at_call 14; (with_reducible refine (KA.out _).mono ?_); rintro e w9 ⟨rfl, b9⟩; replace B : Hid (Below w.heap.size w w9) := B.out.trans (b9.out.mono B.out.size); clear b9))
          go_ret
          exact ⟨rfl, B⟩
    · have KC := Lib.hid (fun V => check_is hp rfl V)
      have hcb : (check p.data.toList != 0) = true := by simpa using hc
      generalize check p.data.toList = c at *
      go_enter Try.func11, Try.ntmps11
      go_wp2_with (first
        | (go_at_call 13; (with_reducible refine (KG.out _ _ _ (by simp)).mono ?_); rintro e wz0 ⟨rfl, rfl⟩)
        | (go_at_call 17; (with_reducible refine (KC.out _).mono ?_); rintro e w1 ⟨rfl, b1⟩; replace B : Hid (Below w.heap.size w w1) := B.out.trans (b1.out.mono B.out.size); clear b1)
        | (go_at_call 14; (with_reducible refine (KA.out _).mono ?_); rintro e w9 ⟨rfl, b9⟩; replace B : Hid (Below w.heap.size w w9) := B.out.trans (b9.out.mono B.out.size); clear b9))
      go_ret
      exact ⟨rfl, B⟩
end Go.Proofs.Ytilfggnhaehbcaa.Rx
