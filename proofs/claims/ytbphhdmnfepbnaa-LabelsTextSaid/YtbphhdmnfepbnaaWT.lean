/- Layer 5: the walk of LabelsText. -/
import Derived.Test.YtbphhdmnfepbnaaGW
set_option linter.unusedVariables false
set_option linter.unusedSimpArgs false
namespace Go.Proofs.Ytbphhdmnfepbnaa.Lab
open Go.RowKit
set_option maxRecDepth 100000 in
set_option maxHeartbeats 4000000 in
theorem text_walk (A : Option Addr) (c : Nat) (l : List Lb) (hm : l.length ≤ maxLen) (hz : ∀ x ∈ l, x.n.size ≤ maxLen ∧ x.v.size ≤ maxLen) (s : ByteArray) (hs : s.size ≤ maxLen) (w : World) (hL : LS w w.heap.size A l) :
    Calls Try.prog 4 #[.slice A l.length c, .string s] w fun e w' => e = .returned (.bool true) ∧ Below w.heap.size w w' := by
  have G := Lib.hid (c_great1 l hm hz A c w hL)
  have R0 : Hid (RB w (w.alloc (.cells #[.slice A l.length c] 22))) := (RB.refl w).alloc _
  have X := Lib.hid hL
  have HH := Lib.hid hm
  unfold maxLen at hm hs
  clear hL hz
  cases hg : greatL l with
  | true =>
    rw [hg] at G
    clear hg
    go_enter Try.func4, Try.ntmps4
    go_wp2_with (first
      | (go_at_call 10; (with_reducible refine G.out.mono ?_); rintro e w1 ⟨rfl, rfl⟩)
      | (go_at_call 11; (with_reducible refine (c_awake R0.out).mono ?_); rintro e w2 ⟨rfl, hb⟩; have R2 := Lib.hid hb; clear hb))
    go_ret
    exact ⟨rfl, R2.out⟩
  | false =>
    have hsm := great_sm hg
    have SM := Lib.hid hsm
    rw [hg] at G
    clear hg hsm
    by_cases h3 : 300 < s.size
    · go_enter Try.func4, Try.ntmps4
      go_wp2_with (first
        | (go_at_call 10; (with_reducible refine G.out.mono ?_); rintro e w1 ⟨rfl, rfl⟩)
        | (go_at_call 11; (with_reducible refine (c_awake R0.out).mono ?_); rintro e w2 ⟨rfl, hb⟩; have R2 := Lib.hid hb; clear hb))
      go_ret
      exact ⟨rfl, R2.out⟩
    · obtain ⟨m, er, hp⟩ : ∃ m er, parseO s.data.toList = (m, er) := ⟨_, _, rfl⟩
      have hmm : Sm m := by have h := parse_sm s.data.toList; rw [hp] at h; exact h
      have SM2 := Lib.hid hmm
      have HP := Lib.hid hp
      have HS : Hid (s.size ≤ 100000) := (by omega : s.size ≤ 100000)
      have H29 : Hid (∀ V, Calls Try.prog 29 #[.string s] V fun e w' => e = .returned (.int .i64 (hashL s.data.toList)) ∧ V = w') := fun V => hash_any s (by unfold maxLen; omega) V
      have H30 : Hid (∀ V, Calls Try.prog 30 #[.string s] V fun e w' => e = .returned (.int .i64 (hashL s.data.toList)) ∧ V = w') := fun V => refHash_any s (by unfold maxLen; omega) V
      clear hp hmm
      generalize hashL s.data.toList = hh at *
      go_enter Try.func4, Try.ntmps4
      go_wp2_with (first
        | (go_at_call 10; (with_reducible refine G.out.mono ?_); rintro e w1 ⟨rfl, rfl⟩)
        | (go_at_call 23; (with_reducible refine (c_parse s HS.out HP.out R0.out).mono ?_); rintro e w2 ⟨B, b, rfl, hl, hb⟩; have R2 := Lib.hid hb; have L2 := Lib.hid hl; clear hb hl)
        | (go_at_call 24; (with_reducible refine (c_refParse s HS.out HP.out (RB.refl w2)).mono ?_); rintro e w3 ⟨D, d, rfl, hl, hb⟩; have R3 := Lib.hid hb; have L3 := Lib.hid hl; have X3 := Lib.hid ((X.out.rb R2.out).rb hb); have M3 := Lib.hid (L2.out.rb hb); clear hb hl)
        | (go_at_call 25; (with_reducible refine (c_format l SM.out A c X3.out (RB.refl w3)).mono ?_); rintro e w4 ⟨rfl, hb⟩; have R4 := Lib.hid hb; clear hb)
        | (go_at_call 26; (with_reducible refine (c_refFormat l SM.out A c (X3.out.rb R4.out) R4.out).mono ?_); rintro e w5 ⟨rfl, hb⟩; have R5 := Lib.hid hb; clear hb)
        | (go_at_call 14; (with_reducible refine (c_same m SM2.out.maxLen_ B D b d (M3.out.rb R5.out) (L3.out.rb R5.out) R5.out).mono ?_); rintro e w6 ⟨rfl, hb⟩; have R6 := Lib.hid hb; clear hb)
        | (go_at_call 27; (with_reducible refine (c_hash l SM.out A c (X3.out.rb R6.out) R6.out).mono ?_); rintro e w7 ⟨rfl, hb⟩; have R7 := Lib.hid hb; clear hb)
        | (go_at_call 28; (with_reducible refine (c_refHash l SM.out A c (X3.out.rb R7.out) R7.out).mono ?_); rintro e w8 ⟨rfl, hb⟩; have R8 := Lib.hid hb; clear hb)
        | (go_at_call 29; (with_reducible refine (H29.out _).mono ?_); rintro e w9 ⟨rfl, rfl⟩)
        | (go_at_call 30; (with_reducible refine (H30.out _).mono ?_); rintro e w9 ⟨rfl, rfl⟩)
        | (go_at_call 11; (with_reducible refine (c_awake R8.out).mono ?_); rintro e w9 ⟨rfl, hb⟩; have R9 := Lib.hid hb; clear hb))
      go_ret
      exact ⟨rfl, (R2.out.step R3.out).step R9.out⟩
end Go.Proofs.Ytbphhdmnfepbnaa.Lab
