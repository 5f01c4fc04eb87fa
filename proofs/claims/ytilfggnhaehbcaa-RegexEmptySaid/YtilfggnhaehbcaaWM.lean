/- Layer 6: the walk of the law on emptiness. -/
import Derived.Test.YtilfggnhaehbcaaWE
set_option linter.unusedVariables false
set_option linter.unusedSimpArgs false
namespace Go.Proofs.Ytilfggnhaehbcaa.Rx
open Go.RowKit
theorem empty_is {p : ByteArray} (hp : p.size ≤ maxLen) {r : Re} (hc : check p.data.toList = 0) (hr : parse p.data.toList = some r) {b : Bool} (hb : emptyR r = b) (V : World) : Calls Try.prog 21 #[.string p] V (EmpP b V) := by
  have e : emptyS p.data.toList = b := by
    unfold emptyS
    rw [hc, hr]
    simpa using hb
  rw [← e]
  exact empty_any p hp V
set_option maxHeartbeats 4000000 in
set_option maxRecDepth 100000 in
theorem empty_walk (p q s : ByteArray) (hp : p.size ≤ maxLen) (hq : q.size ≤ maxLen) (hs : s.size ≤ maxLen) (w : World) : Calls Try.prog 12 #[.string p, .string q, .string s] w (EmpP true w) := by
  have hp' := hp
  have hq' := hq
  unfold maxLen at hp hq hs
  have KA := Lib.hid (fun V => awake_any V)
  have B : Hid (Below w.heap.size w w) := Below.refl _ _
  have KP := Lib.hid (fun V => check_is hp' rfl V)
  have KQ := Lib.hid (fun V => check_is hq' rfl V)
  by_cases h1 : 95 < p.size
  · have h1' : (95 : Int) < (p.size : Int) := by omega
    go_enter Try.func12, Try.ntmps12
    go_wp2_with (go_at_call 14; (with_reducible refine (KA.out _).mono ?_); rintro e w9 ⟨rfl, b9⟩; replace B : Hid (Below w.heap.size w w9) := B.out.trans (b9.out.mono B.out.size); clear b9)
    go_ret
    exact ⟨rfl, B⟩
  have h1' : ¬ ((95 : Int) < (p.size : Int)) := by omega
  by_cases h2 : 95 < q.size
  · have h2' : (95 : Int) < (q.size : Int) := by omega
    go_enter Try.func12, Try.ntmps12
    go_wp2_with (go_at_call 14; (with_reducible refine (KA.out _).mono ?_); rintro e w9 ⟨rfl, b9⟩; replace B : Hid (Below w.heap.size w w9) := B.out.trans (b9.out.mono B.out.size); clear b9)
    go_ret
    exact ⟨rfl, B⟩
  have h2' : ¬ ((95 : Int) < (q.size : Int)) := by omega
  by_cases h3 : 40 < s.size
  · have h3' : (40 : Int) < (s.size : Int) := by omega
    go_enter Try.func12, Try.ntmps12
    go_wp2_with (go_at_call 14; (with_reducible refine (KA.out _).mono ?_); rintro e w9 ⟨rfl, b9⟩; replace B : Hid (Below w.heap.size w w9) := B.out.trans (b9.out.mono B.out.size); clear b9)
    go_ret
    exact ⟨rfl, B⟩
  have h3' : ¬ ((40 : Int) < (s.size : Int)) := by omega
  by_cases hc : check p.data.toList = 0
  · by_cases hd : check q.data.toList = 0
    · obtain ⟨r, hr⟩ := check_parse hc
      obtain ⟨r', hr'⟩ := check_parse hd
      have pb := parse_either hr hr'
      rw [← either_data] at pb
      have pc := parse_concat hr hr'
      rw [← concat_data] at pc
      have p1 := parse_rep hr (c := 42) (by decide)
      rw [← rep_data] at p1
      have p2 := parse_rep hr (c := 43) (by decide)
      rw [← rep_data] at p2
      have p3 := parse_rep hr (c := 63) (by decide)
      rw [← rep_data] at p3
      have sb := either_size p q
      have sc := concat_size p q
      have s1 := rep_size p 42
      have s2 := rep_size p 43
      have s3 := rep_size p 63
      have cb := check_of pb
      have cc := check_of pc
      have c1 := check_of p1
      have c2 := check_of p2
      have c3 := check_of p3
      rw [size_len, sb, if_pos (by omega)] at cb
      rw [size_len, sc, if_pos (by omega)] at cc
      rw [size_len, s1, if_pos (by omega)] at c1
      rw [size_len, s2, if_pos (by omega)] at c2
      rw [size_len, s3, if_pos (by omega)] at c3
      obtain ⟨m, hm, hm2⟩ := match_exists p s hp' (by omega)
      rw [mat_is hc hr] at hm
      have KM := Lib.hid hm2
      have KEP := Lib.hid (fun V => empty_is hp' hc hr rfl V)
      have KEQ := Lib.hid (fun V => empty_is hq' hd hr' rfl V)
      have KE1 := Lib.hid (fun V => empty_is (p := ⟨#[40]⟩ ++ p ++ ⟨#[41, 42]⟩) (by unfold maxLen; omega) c1 p1 (b := false) (empty_star r) V)
      have KE2 := Lib.hid (fun V => empty_is (p := ⟨#[40]⟩ ++ p ++ ⟨#[41, 43]⟩) (by unfold maxLen; omega) c2 p2 (b := emptyR r) (empty_plus r) V)
      have KE3 := Lib.hid (fun V => empty_is (p := ⟨#[40]⟩ ++ p ++ ⟨#[41, 63]⟩) (by unfold maxLen; omega) c3 p3 (b := false) (empty_maybe r) V)
      have KEB := Lib.hid (fun V => empty_is (p := ⟨#[40]⟩ ++ p ++ ⟨#[41, 124, 40]⟩ ++ q ++ ⟨#[41]⟩) (by unfold maxLen; omega) cb pb (b := (emptyR r && emptyR r')) (empty_either r r') V)
      have KEC := Lib.hid (fun V => empty_is (p := ⟨#[40]⟩ ++ p ++ ⟨#[41, 40]⟩ ++ q ++ ⟨#[41]⟩) (by unfold maxLen; omega) cc pc (b := (emptyR r || emptyR r')) (empty_concat r r') V)
      have HM : emptyR r = true → m = false := fun h => by
        cases m with
        | false => rfl
        | true =>
          have := empty_mat (hm.1 rfl)
          rw [h] at this
          cases this
      rw [hc] at KP
      rw [hd] at KQ
      clear hm hm2 hc hd hr hr' pb pc p1 p2 p3 cb cc c1 c2 c3 sb sc s1 s2 s3
      generalize emptyR r = a at *
      generalize emptyR r' = b at *
      cases a with
      | true =>
        obtain rfl : m = false := HM rfl
        clear HM
        cases b with
        | true =>
          go_enter Try.func12, Try.ntmps12
          go_wp2_with (first
            | (go_at_call 17; (with_reducible refine (KP.out _).mono ?_); rintro e w1 ⟨rfl, b1⟩; replace B : Hid (Below w.heap.size w w1) := B.out.trans (b1.out.mono B.out.size); clear b1)
            | (go_at_call 17; (with_reducible refine (KQ.out _).mono ?_); rintro e w2 ⟨rfl, b2⟩; replace B : Hid (Below w.heap.size w w2) := B.out.trans (b2.out.mono B.out.size); clear b2)
            | (go_at_call 21; (with_reducible refine (KEP.out _).mono ?_); rintro e w3 ⟨rfl, b3⟩; replace B : Hid (Below w.heap.size w w3) := B.out.trans (b3.out.mono B.out.size); clear b3)
            | (go_at_call 21; (with_reducible refine (KEQ.out _).mono ?_); rintro e w4 ⟨rfl, b4⟩; replace B : Hid (Below w.heap.size w w4) := B.out.trans (b4.out.mono B.out.size); clear b4)
            | (go_at_call 23; (with_reducible refine (KM.out _).mono ?_); rintro e w5 ⟨rfl, b5⟩; replace B : Hid (Below w.heap.size w w5) := B.out.trans (b5.out.mono B.out.size); clear b5)
            | (go_at_call 21; (with_reducible refine (KE1.out _).mono ?_); rintro e w6 ⟨rfl, b6⟩; replace B : Hid (Below w.heap.size w w6) := B.out.trans (b6.out.mono B.out.size); clear b6)
            | (go_at_call 21; (with_reducible refine (KE3.out _).mono ?_); rintro e w7 ⟨rfl, b7⟩; replace B : Hid (Below w.heap.size w w7) := B.out.trans (b7.out.mono B.out.size); clear b7)
            | (go_at_call 21; (with_reducible refine (KE2.out _).mono ?_); rintro e w8 ⟨rfl, b8⟩; replace B : Hid (Below w.heap.size w w8) := B.out.trans (b8.out.mono B.out.size); clear b8)
            | (go_at_call 21; (with_reducible refine (KEB.out _).mono ?_); rintro e w10 ⟨rfl, b10⟩; replace B : Hid (Below w.heap.size w w10) := B.out.trans (b10.out.mono B.out.size); clear b10)
            | (go_at_call 21; (with_reducible refine (KEC.out _).mono ?_); rintro e w11 ⟨rfl, b11⟩; replace B : Hid (Below w.heap.size w w11) := B.out.trans (b11.out.mono B.out.size); clear b11)
            | (go_at_call 14; (with_reducible refine (KA.out _).mono ?_); rintro e w9 ⟨rfl, b9⟩; replace B : Hid (Below w.heap.size w w9) := B.out.trans (b9.out.mono B.out.size); clear b9))
          go_ret
          exact ⟨rfl, B⟩
        | false =>
          go_enter Try.func12, Try.ntmps12
          go_wp2_with (first
            | (go_at_call 17; (with_reducible refine (KP.out _).mono ?_); rintro e w1 ⟨rfl, b1⟩; replace B : Hid (Below w.heap.size w w1) := B.out.trans (b1.out.mono B.out.size); clear b1)
            | (go_at_call 17; (with_reducible refine (KQ.out _).mono ?_); rintro e w2 ⟨rfl, b2⟩; replace B : Hid (Below w.heap.size w w2) := B.out.trans (b2.out.mono B.out.size); clear b2)
            | (go_at_call 21; (with_reducible refine (KEP.out _).mono ?_); rintro e w3 ⟨rfl, b3⟩; replace B : Hid (Below w.heap.size w w3) := B.out.trans (b3.out.mono B.out.size); clear b3)
            | (go_at_call 21; (with_reducible refine (KEQ.out _).mono ?_); rintro e w4 ⟨rfl, b4⟩; replace B : Hid (Below w.heap.size w w4) := B.out.trans (b4.out.mono B.out.size); clear b4)
            | (go_at_call 23; (with_reducible refine (KM.out _).mono ?_); rintro e w5 ⟨rfl, b5⟩; replace B : Hid (Below w.heap.size w w5) := B.out.trans (b5.out.mono B.out.size); clear b5)
            | (go_at_call 21; (with_reducible refine (KE1.out _).mono ?_); rintro e w6 ⟨rfl, b6⟩; replace B : Hid (Below w.heap.size w w6) := B.out.trans (b6.out.mono B.out.size); clear b6)
            | (go_at_call 21; (with_reducible refine (KE3.out _).mono ?_); rintro e w7 ⟨rfl, b7⟩; replace B : Hid (Below w.heap.size w w7) := B.out.trans (b7.out.mono B.out.size); clear b7)
            | (go_at_call 21; (with_reducible refine (KE2.out _).mono ?_); rintro e w8 ⟨rfl, b8⟩; replace B : Hid (Below w.heap.size w w8) := B.out.trans (b8.out.mono B.out.size); clear b8)
            | (go_at_call 21; (with_reducible refine (KEB.out _).mono ?_); rintro e w10 ⟨rfl, b10⟩; replace B : Hid (Below w.heap.size w w10) := B.out.trans (b10.out.mono B.out.size); clear b10)
            | (go_at_call 21; (with_reducible refine (KEC.out _).mono ?_); rintro e w11 ⟨rfl, b11⟩; replace B : Hid (Below w.heap.size w w11) := B.out.trans (b11.out.mono B.out.size); clear b11)
            | (go_at_call 14; (with_reducible refine (KA.out _).mono ?_); rintro e w9 ⟨rfl, b9⟩; replace B : Hid (Below w.heap.size w w9) := B.out.trans (b9.out.mono B.out.size); clear b9))
          go_ret
          exact ⟨rfl, B⟩
      | false =>
        clear HM
        cases b with
        | true =>
          go_enter Try.func12, Try.ntmps12
          go_wp2_with (first
            | (go_at_call 17; (with_reducible refine (KP.out _).mono ?_); rintro e w1 ⟨rfl, b1⟩; replace B : Hid (Below w.heap.size w w1) := B.out.trans (b1.out.mono B.out.size); clear b1)
            | (go_at_call 17; (with_reducible refine (KQ.out _).mono ?_); rintro e w2 ⟨rfl, b2⟩; replace B : Hid (Below w.heap.size w w2) := B.out.trans (b2.out.mono B.out.size); clear b2)
            | (go_at_call 21; (with_reducible refine (KEP.out _).mono ?_); rintro e w3 ⟨rfl, b3⟩; replace B : Hid (Below w.heap.size w w3) := B.out.trans (b3.out.mono B.out.size); clear b3)
            | (go_at_call 21; (with_reducible refine (KEQ.out _).mono ?_); rintro e w4 ⟨rfl, b4⟩; replace B : Hid (Below w.heap.size w w4) := B.out.trans (b4.out.mono B.out.size); clear b4)
            | (go_at_call 23; (with_reducible refine (KM.out _).mono ?_); rintro e w5 ⟨rfl, b5⟩; replace B : Hid (Below w.heap.size w w5) := B.out.trans (b5.out.mono B.out.size); clear b5)
            | (go_at_call 21; (with_reducible refine (KE1.out _).mono ?_); rintro e w6 ⟨rfl, b6⟩; replace B : Hid (Below w.heap.size w w6) := B.out.trans (b6.out.mono B.out.size); clear b6)
            | (go_at_call 21; (with_reducible refine (KE3.out _).mono ?_); rintro e w7 ⟨rfl, b7⟩; replace B : Hid (Below w.heap.size w w7) := B.out.trans (b7.out.mono B.out.size); clear b7)
            | (go_at_call 21; (with_reducible refine (KE2.out _).mono ?_); rintro e w8 ⟨rfl, b8⟩; replace B : Hid (Below w.heap.size w w8) := B.out.trans (b8.out.mono B.out.size); clear b8)
            | (go_at_call 21; (with_reducible refine (KEB.out _).mono ?_); rintro e w10 ⟨rfl, b10⟩; replace B : Hid (Below w.heap.size w w10) := B.out.trans (b10.out.mono B.out.size); clear b10)
            | (go_at_call 21; (with_reducible refine (KEC.out _).mono ?_); rintro e w11 ⟨rfl, b11⟩; replace B : Hid (Below w.heap.size w w11) := B.out.trans (b11.out.mono B.out.size); clear b11)
            | (go_at_call 14; (with_reducible refine (KA.out _).mono ?_); rintro e w9 ⟨rfl, b9⟩; replace B : Hid (Below w.heap.size w w9) := B.out.trans (b9.out.mono B.out.size); clear b9))
          go_ret
          exact ⟨rfl, B⟩
        | false =>
          go_enter Try.func12, Try.ntmps12
          go_wp2_with (first
            | (go_at_call 17; (with_reducible refine (KP.out _).mono ?_); rintro e w1 ⟨rfl, b1⟩; replace B : Hid (Below w.heap.size w w1) := B.out.trans (b1.out.mono B.out.size); clear b1)
            | (go_at_call 17; (with_reducible refine (KQ.out _).mono ?_); rintro e w2 ⟨rfl, b2⟩; replace B : Hid (Below w.heap.size w w2) := B.out.trans (b2.out.mono B.out.size); clear b2)
            | (go_at_call 21; (with_reducible refine (KEP.out _).mono ?_); rintro e w3 ⟨rfl, b3⟩; replace B : Hid (Below w.heap.size w w3) := B.out.trans (b3.out.mono B.out.size); clear b3)
            | (go_at_call 21; (with_reducible refine (KEQ.out _).mono ?_); rintro e w4 ⟨rfl, b4⟩; replace B : Hid (Below w.heap.size w w4) := B.out.trans (b4.out.mono B.out.size); clear b4)
            | (go_at_call 23; (with_reducible refine (KM.out _).mono ?_); rintro e w5 ⟨rfl, b5⟩; replace B : Hid (Below w.heap.size w w5) := B.out.trans (b5.out.mono B.out.size); clear b5)
            | (go_at_call 21; (with_reducible refine (KE1.out _).mono ?_); rintro e w6 ⟨rfl, b6⟩; replace B : Hid (Below w.heap.size w w6) := B.out.trans (b6.out.mono B.out.size); clear b6)
            | (go_at_call 21; (with_reducible refine (KE3.out _).mono ?_); rintro e w7 ⟨rfl, b7⟩; replace B : Hid (Below w.heap.size w w7) := B.out.trans (b7.out.mono B.out.size); clear b7)
            | (go_at_call 21; (with_reducible refine (KE2.out _).mono ?_); rintro e w8 ⟨rfl, b8⟩; replace B : Hid (Below w.heap.size w w8) := B.out.trans (b8.out.mono B.out.size); clear b8)
            | (go_at_call 21; (with_reducible refine (KEB.out _).mono ?_); rintro e w10 ⟨rfl, b10⟩; replace B : Hid (Below w.heap.size w w10) := B.out.trans (b10.out.mono B.out.size); clear b10)
            | (go_at_call 21; (with_reducible refine (KEC.out _).mono ?_); rintro e w11 ⟨rfl, b11⟩; replace B : Hid (Below w.heap.size w w11) := B.out.trans (b11.out.mono B.out.size); clear b11)
            | (go_at_call 14; (with_reducible refine (KA.out _).mono ?_); rintro e w9 ⟨rfl, b9⟩; replace B : Hid (Below w.heap.size w w9) := B.out.trans (b9.out.mono B.out.size); clear b9))
          go_ret
          exact ⟨rfl, B⟩
    · have hcb : (check q.data.toList != 0) = true := by simpa using hd
      rw [hc] at KP
      generalize check q.data.toList = c at *
      go_enter Try.func12, Try.ntmps12
      go_wp2_with (first
        | (go_at_call 17; (with_reducible refine (KP.out _).mono ?_); rintro e w1 ⟨rfl, b1⟩; replace B : Hid (Below w.heap.size w w1) := B.out.trans (b1.out.mono B.out.size); clear b1)
        | (go_at_call 17; (with_reducible refine (KQ.out _).mono ?_); rintro e w2 ⟨rfl, b2⟩; replace B : Hid (Below w.heap.size w w2) := B.out.trans (b2.out.mono B.out.size); clear b2)
        | (go_at_call 14; (with_reducible refine (KA.out _).mono ?_); rintro e w9 ⟨rfl, b9⟩; replace B : Hid (Below w.heap.size w w9) := B.out.trans (b9.out.mono B.out.size); clear b9))
      go_ret
      exact ⟨rfl, B⟩
  · have hcb : (check p.data.toList != 0) = true := by simpa using hc
    generalize check p.data.toList = c at *
    go_enter Try.func12, Try.ntmps12
    go_wp2_with (first
      | (go_at_call 17; (with_reducible refine (KP.out _).mono ?_); rintro e w1 ⟨rfl, b1⟩; replace B : Hid (Below w.heap.size w w1) := B.out.trans (b1.out.mono B.out.size); clear b1)
      | (go_at_call 14; (with_reducible refine (KA.out _).mono ?_); rintro e w9 ⟨rfl, b9⟩; replace B : Hid (Below w.heap.size w w9) := B.out.trans (b9.out.mono B.out.size); clear b9))
    go_ret
    exact ⟨rfl, B⟩
end Go.Proofs.Ytilfggnhaehbcaa.Rx
