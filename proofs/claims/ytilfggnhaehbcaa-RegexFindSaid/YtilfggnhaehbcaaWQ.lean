/- Layer 6: the walk of the law on quoting. -/
import Derived.Test.YtilfggnhaehbcaaSD
set_option linter.unusedVariables false
set_option linter.unusedSimpArgs false
namespace Go.Proofs.Ytilfggnhaehbcaa.Rx
open Go.RowKit
theorem bytes_same {a b : ByteArray} (h : a.data.toList = b.data.toList) : a = b := ByteArray.ext (Array.toList_inj.1 h)
theorem quote_len : ∀ l : List UInt8, (quote l).length ≤ 2 * l.length
  | [] => Nat.le_refl _
  | c :: l => by
    have := quote_len l
    rw [quote_cons, List.length_append, List.length_cons]
    split <;> simp <;> omega
set_option maxHeartbeats 4000000 in
set_option maxRecDepth 100000 in
theorem quote_walk (s t : ByteArray) (hs : s.size ≤ maxLen) (ht : t.size ≤ maxLen) (w : World) : Calls Try.prog 9 #[.string s, .string t] w (EmpP true w) := by
  unfold maxLen at hs ht
  have KA := Lib.hid (fun V => awake_any V)
  by_cases h1 : 100 < s.size
  · have h1' : (100 : Int) < (s.size : Int) := by omega
    go_enter Try.func9, Try.ntmps9
    go_wp2_with (go_at_call 14; (with_reducible refine (KA.out _).mono ?_); rintro e w1 ⟨rfl, b1⟩)
    go_ret
    exact ⟨rfl, b1⟩
  · have h1' : ¬ ((100 : Int) < (s.size : Int)) := by omega
    by_cases h2 : 100 < t.size
    · have h2' : (100 : Int) < (t.size : Int) := by omega
      go_enter Try.func9, Try.ntmps9
      go_wp2_with (go_at_call 14; (with_reducible refine (KA.out _).mono ?_); rintro e w1 ⟨rfl, b1⟩)
      go_ret
      exact ⟨rfl, b1⟩
    · have h2' : ¬ ((100 : Int) < (t.size : Int)) := by omega
      have KQ := Lib.hid (fun V => quote_any s (by omega) V)
      obtain ⟨q, hq, hql⟩ : ∃ q : ByteArray, q = ⟨(quote s.data.toList).toArray⟩ ∧ q.data.toList = quote s.data.toList := ⟨_, rfl, rfl⟩
      have hqs : q.size ≤ 200 := by
        rw [← size_len, hql]
        have := quote_len s.data.toList
        rw [size_len] at this
        omega
      have hqm : q.size ≤ maxLen := by unfold maxLen; omega
      have HC : check q.data.toList = 0 := by rw [hql]; exact check_yes (by rw [← hql, size_len]; exact hqs) (parse_quote _)
      have HP : pre q.data.toList = (s.data.toList, true) := by
        rw [pre_yes HC (by rw [hql]; exact parse_quote _)]
        exact prefix_quote _
      have HM : ∀ u : List UInt8, MatS q.data.toList u ↔ u = s.data.toList := fun u => by
        constructor
        · rintro ⟨r, _, h3, h4⟩
          rw [hql, parse_quote] at h3
          cases h3
          exact (quote_mat _ _).1 h4
        · intro e
          exact ⟨_, HC, by rw [hql]; exact parse_quote _, (quote_mat _ _).2 e⟩
      have HE : emptyS q.data.toList = false := by
        unfold emptyS
        rw [hql, parse_quote]
        simp [empty_quote]
      have K15 : Hid (∀ V, Calls Try.prog 15 #[.string q] V fun e w' => e = .returned (.tuple #[.string s, .bool true]) ∧ Hid (Below V.heap.size V w')) := fun V => (prefix_any q hqm V).mono fun e w' ⟨u, all, he, hb, hp⟩ => by
        have hp := hp.out
        rw [HP] at hp
        injection hp with e1 e2
        rw [he, ← e2, bytes_same e1.symm]
        exact ⟨rfl, hb⟩
      have K19 : Hid (∀ V, Calls Try.prog 19 #[.string s] V fun e w' => e = .returned (.string q) ∧ Hid (Below V.heap.size V w')) := fun V => by rw [hq]; exact KQ.out V
      have K17 := Lib.hid (fun V => check_is hqm HC V)
      have K23 := Lib.hid (fun V => match_is (s := s) hqm (by omega) (m := true) (by rw [HM]; simp) V)
      have K23b := Lib.hid (fun V => match_is (s := t) hqm (by omega) (m := (s.toList == t.toList)) (by rw [HM, str_eq, decide_eq_true_iff]; exact eq_comm) V)
      have K21 : Hid (∀ V, Calls Try.prog 21 #[.string q] V (EmpP false V)) := fun V => by rw [← HE]; exact empty_any q hqm V
      clear HM HE HC hql HP KQ hq
      go_enter Try.func9, Try.ntmps9
      go_wp2_with (first
        | (go_at_call 19; (with_reducible refine (K19.out _).mono ?_); rintro e w1 ⟨rfl, b1⟩)
        | (go_at_call 15; (with_reducible refine (K15.out _).mono ?_); rintro e w2 ⟨rfl, b2⟩; have B2 : Hid (Below w.heap.size w w2) := b1.out.trans (b2.out.mono b1.out.size); clear b1 b2)
        | (go_at_call 17; (with_reducible refine (K17.out _).mono ?_); rintro e w3 ⟨rfl, b3⟩; have B3 : Hid (Below w.heap.size w w3) := B2.out.trans (b3.out.mono B2.out.size); clear b3)
        | (go_at_call 23; (with_reducible refine (K23.out _).mono ?_); rintro e w4 ⟨rfl, b4⟩; have B4 : Hid (Below w.heap.size w w4) := B3.out.trans (b4.out.mono B3.out.size); clear b4)
        | (go_at_call 23; (with_reducible refine (K23b.out _).mono ?_); rintro e w5 ⟨rfl, b5⟩; have B5 : Hid (Below w.heap.size w w5) := B4.out.trans (b5.out.mono B4.out.size); clear b5)
        | (go_at_call 21; (with_reducible refine (K21.out _).mono ?_); rintro e w6 ⟨rfl, b6⟩; have B6 : Hid (Below w.heap.size w w6) := B5.out.trans (b6.out.mono B5.out.size); clear b6)
        | (go_at_call 14; (with_reducible refine (KA.out _).mono ?_); rintro e w7 ⟨rfl, b7⟩; have B7 : Hid (Below w.heap.size w w7) := B6.out.trans (b7.out.mono B6.out.size); clear b7))
      go_ret
      exact ⟨rfl, B7⟩
end Go.Proofs.Ytilfggnhaehbcaa.Rx
