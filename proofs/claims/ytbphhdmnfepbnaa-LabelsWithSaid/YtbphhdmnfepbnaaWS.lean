/- Layer 5: the walk of LabelsSets. -/
import Derived.Test.YtbphhdmnfepbnaaGW
import Derived.Test.YtbphhdmnfepbnaaSE
set_option linter.unusedVariables false
set_option linter.unusedSimpArgs false
namespace Go.Proofs.Ytbphhdmnfepbnaa.Lab
open Go.RowKit
section
variable {w0 V : World}
theorem withL_len (l : List Lb) (n v : ByteArray) : (withL l n v).length ≤ l.length + 1 := by
  have h := keepL_len false [n] l
  unfold withL
  split
  · omega
  · rw [insL_len _ (lessN_le _ _)]; omega
theorem c_get (l : List Lb) (hl : Sm l) (A : Option Addr) (c : Nat) (s : ByteArray) (hL : LS V V.heap.size A l) (h : RB w0 V) : Calls Try.prog 12 #[.slice A l.length c, .string s] V fun e w' => e = .returned (.string (getL l s)) ∧ RB w0 w' := (get_any l hl.hun s A c V hL).mono fun _ _ ⟨he, hb⟩ => ⟨he, h.step hb⟩
theorem c_with (l : List Lb) (hl : Sm l) (A : Option Addr) (c : Nat) (n v : ByteArray) (hL : LS V V.heap.size A l) (h : RB w0 V) : Calls Try.prog 15 #[.slice A l.length c, .string n, .string v] V (MadePost w0 (withL l n v)) := (with_any l (by have := hl.len; omega) A c n v V hL).mono fun _ _ => MadePost.of h
theorem c_refWith (l : List Lb) (hl : Sm l) (A : Option Addr) (c : Nat) (n v : ByteArray) (hL : LS V V.heap.size A l) (h : RB w0 V) : Calls Try.prog 16 #[.slice A l.length c, .string n, .string v] V (MadePost w0 (withL l n v)) := (refWith_any l (by have := hl.len; omega) A c n v V hL).mono fun _ _ => MadePost.of h
end
set_option maxRecDepth 100000 in
set_option maxHeartbeats 8000000 in
theorem sets_walk (A : Option Addr) (c : Nat) (l : List Lb) (hm : l.length ≤ maxLen) (hz : ∀ x ∈ l, x.n.size ≤ maxLen ∧ x.v.size ≤ maxLen)
    (C : Option Addr) (d : Nat) (ns : List ByteArray) (hn : ns.length ≤ maxLen) (hnz : ∀ s ∈ ns, s.size ≤ maxLen) (s : ByteArray) (hs : s.size ≤ maxLen) (w : World) (hL : LS w w.heap.size A l) (hC : SS w w.heap.size C ns) :
    Calls Try.prog 3 #[.slice A l.length c, .slice C ns.length d, .string s] w fun e w' => e = .returned (.bool true) ∧ Below w.heap.size w w' := by
  have G := Lib.hid (c_great1 l hm hz A c w hL)
  have R0 : Hid (RB w (w.alloc (.cells #[.slice A l.length c] 22))) := (RB.refl w).alloc _
  have X := Lib.hid hL
  have Y := Lib.hid hC
  have HN := Lib.hid hn
  unfold maxLen at hm hn hs
  clear hL hC hz hnz
  cases hg : greatL l with
  | true =>
    rw [hg] at G
    clear hg
    go_enter Try.func3, Try.ntmps3
    go_wp2_with (first
      | (go_at_call 10; (with_reducible refine G.out.mono ?_); rintro e w1 ⟨rfl, rfl⟩)
      | (go_at_call 11; (with_reducible refine (c_awake R0.out).mono ?_); rintro e w2 ⟨rfl, hb⟩; have R2 := Lib.hid hb; clear hb))
    go_ret
    exact ⟨rfl, R2.out⟩
  | false =>
    have hsm := great_sm hg
    have SM := Lib.hid hsm
    have hl17 := hsm.len
    rw [hg] at G
    clear hg hsm
    by_cases h3 : 10 < ns.length
    · go_enter Try.func3, Try.ntmps3
      go_wp2_with (first
        | (go_at_call 10; (with_reducible refine G.out.mono ?_); rintro e w1 ⟨rfl, rfl⟩)
        | (go_at_call 11; (with_reducible refine (c_awake R0.out).mono ?_); rintro e w2 ⟨rfl, hb⟩; have R2 := Lib.hid hb; clear hb))
      go_ret
      exact ⟨rfl, R2.out⟩
    · by_cases h4 : 201 < s.size
      · go_enter Try.func3, Try.ntmps3
        go_wp2_with (first
          | (go_at_call 10; (with_reducible refine G.out.mono ?_); rintro e w1 ⟨rfl, rfl⟩)
          | (go_at_call 11; (with_reducible refine (c_awake R0.out).mono ?_); rintro e w2 ⟨rfl, hb⟩; have R2 := Lib.hid hb; clear hb))
        go_ret
        exact ⟨rfl, R2.out⟩
      · go_enter Try.func3, Try.ntmps3
        go_wp2_with (go_at_call 10; (with_reducible refine G.out.mono ?_); rintro e w1 ⟨rfl, rfl⟩)
        go_loopw [25] (fun vj wr => ∃ j : Nat, j ≤ ns.length ∧ vj = .int .i64 (j : Int) ∧ Hid (RB w wr)) (fun vj _ => ns.length - (intOf vj).toNat)
        case atStart => exact ⟨0, by omega, rfl, R0⟩
        case round =>
          clear R0
          obtain ⟨j, hj, rfl, HW⟩ := hrel
          by_cases hlt : j < ns.length
          · obtain ⟨bn, off, rfl, hbn, g1⟩ := (Y.out.rb HW.out).at_ hlt
            generalize ns[j] = nm at *
            have LW : Hid ((withL l nm s).length ≤ maxLen) := Nat.le_trans (withL_len l nm s) (by unfold maxLen; omega)
            have CR := fun V (h : LS V V.heap.size A l) => refGet_any l (by unfold maxLen; omega) nm A c _ V h
            have CR' := Lib.hid CR
            have WP : Hid (∀ V, LS V V.heap.size A l → Calls Try.prog 15 #[.slice A l.length c, .string nm, .string s] V (MadePost V (withL l nm s))) := fun V h => c_with l SM.out A c nm s h (RB.refl V)
            have WQ : Hid (∀ V, LS V V.heap.size A l → Calls Try.prog 16 #[.slice A l.length c, .string nm, .string s] V (MadePost V (withL l nm s))) := fun V h => c_refWith l SM.out A c nm s h (RB.refl V)
            have WE : Hid (∀ V D m E n, LS V V.heap.size D (withL l nm s) → LS V V.heap.size E (withL l nm s) → Calls Try.prog 14 #[.slice D (withL l nm s).length m, .slice E (withL l nm s).length n] V fun e w' => e = .returned (.bool true) ∧ RB V w') := fun V D m E n h1 h2 => c_same _ LW.out D E m n h1 h2 (RB.refl V)
            clear CR LW
            generalize withL l nm s = r at *
            go_wp2_with (first
              | (go_at_call 12; (with_reducible refine (c_get l SM.out A c nm (X.out.rb HW.out) HW.out).mono ?_); rintro e w2 ⟨rfl, hb⟩; have R2 := Lib.hid hb; clear hb)
              | (go_at_call 13; (with_reducible refine (CR'.out _ (X.out.rb R2.out)).mono ?_); rintro e w3 ⟨rfl, rfl⟩)
              | (go_at_call 15; (with_reducible refine (WP.out _ (X.out.rb R2.out)).mono ?_); rintro e w4 ⟨D, m, rfl, hl, hb⟩; have R4 := Lib.hid (R2.out.step hb); have L4 := Lib.hid hl; clear hb hl)
              | (go_at_call 16; (with_reducible refine (WQ.out _ (X.out.rb R4.out)).mono ?_); rintro e w5 ⟨E, n, rfl, hl, hb⟩; have R5 := Lib.hid (R4.out.step hb); have L5 := Lib.hid hl; have M5 := Lib.hid (L4.out.rb hb); clear hb hl)
              | (go_at_call 14; (with_reducible refine (WE.out _ _ _ _ _ M5.out L5.out).mono ?_); rintro e w6 ⟨rfl, hb⟩; have R6 := Lib.hid (R5.out.step hb); clear hb))
            go_roundw
            case rel => exact ⟨j + 1, by omega, by go_num, R6⟩
            case measure => simp [intOf]; omega
          · have XX := Lib.hid (X.out.rb HW.out)
            have YY := Lib.hid (Y.out.rb HW.out)
            have Z0 : Hid (RB wr wr) := RB.refl wr
            obtain ⟨q, hq⟩ : ∃ q, chk l = q := ⟨_, rfl⟩
            have K1 : Hid (∀ V, RB wr V → Calls Try.prog 17 #[.slice A l.length c] V fun e w' => e = .returned (.int .i64 q) ∧ RB wr w') := fun V h => by rw [← hq]; exact c_check l SM.out A c (XX.out.rb h) h
            have K2 : Hid (∀ V, RB wr V → Calls Try.prog 18 #[.slice A l.length c] V fun e w' => e = .returned (.int .i64 q) ∧ RB wr w') := fun V h => by rw [← hq]; exact c_refCheck l SM.out A c (XX.out.rb h) h
            have KA : Hid (∀ V, RB wr V → Calls Try.prog 19 #[.slice A l.length c, .slice C ns.length d] V (MadePost V (keepL true ns l))) := fun V h => c_keep l SM.out A c ns HN.out C d (XX.out.rb h) (YY.out.rb h) (RB.refl V)
            have KB : Hid (∀ V, RB wr V → Calls Try.prog 20 #[.slice A l.length c, .slice C ns.length d] V (MadePost V (keepL true ns l))) := fun V h => c_refKeep l SM.out A c ns HN.out C d (XX.out.rb h) (YY.out.rb h) (RB.refl V)
            have KC : Hid (∀ V, RB wr V → Calls Try.prog 21 #[.slice A l.length c, .slice C ns.length d] V (MadePost V (keepL false ns l))) := fun V h => c_drop l SM.out A c ns HN.out C d (XX.out.rb h) (YY.out.rb h) (RB.refl V)
            have KD : Hid (∀ V, RB wr V → Calls Try.prog 22 #[.slice A l.length c, .slice C ns.length d] V (MadePost V (keepL false ns l))) := fun V h => c_refDrop l SM.out A c ns HN.out C d (XX.out.rb h) (YY.out.rb h) (RB.refl V)
            have EA : Hid (∀ V D m E n, LS V V.heap.size D (keepL true ns l) → LS V V.heap.size E (keepL true ns l) → Calls Try.prog 14 #[.slice D (keepL true ns l).length m, .slice E (keepL true ns l).length n] V fun e w' => e = .returned (.bool true) ∧ RB V w') := fun V D m E n h1 h2 => c_same _ (SM.out.keep _ _).maxLen_ D E m n h1 h2 (RB.refl V)
            have EB : Hid (∀ V D m E n, LS V V.heap.size D (keepL false ns l) → LS V V.heap.size E (keepL false ns l) → Calls Try.prog 14 #[.slice D (keepL false ns l).length m, .slice E (keepL false ns l).length n] V fun e w' => e = .returned (.bool true) ∧ RB V w') := fun V D m E n h1 h2 => c_same _ (SM.out.keep _ _).maxLen_ D E m n h1 h2 (RB.refl V)
            clear hq
            generalize keepL true ns l = ra at *
            generalize keepL false ns l = rb at *
            go_wp2_with (first
              | (go_at_call 17; (with_reducible refine (K1.out _ Z0.out).mono ?_); rintro e w2 ⟨rfl, hb⟩; have R2 := Lib.hid hb; clear hb)
              | (go_at_call 18; (with_reducible refine (K2.out _ R2.out).mono ?_); rintro e w3 ⟨rfl, hb⟩; have R3 := Lib.hid hb; clear hb)
              | (go_at_call 19; (with_reducible refine (KA.out _ R3.out).mono ?_); rintro e w4 ⟨D, m, rfl, hl, hb⟩; have R4 := Lib.hid (R3.out.step hb); have L4 := Lib.hid hl; clear hb hl)
              | (go_at_call 20; (with_reducible refine (KB.out _ R4.out).mono ?_); rintro e w5 ⟨E, n, rfl, hl, hb⟩; have R5 := Lib.hid (R4.out.step hb); have L5 := Lib.hid hl; have M5 := Lib.hid (L4.out.rb hb); clear hb hl)
              | (go_at_call 14; (with_reducible refine (EA.out _ _ _ _ _ M5.out L5.out).mono ?_); rintro e w6 ⟨rfl, hb⟩; have R6 := Lib.hid (R5.out.step hb); clear hb)
              | (go_at_call 21; (with_reducible refine (KC.out _ R6.out).mono ?_); rintro e w7 ⟨F, f, rfl, hl, hb⟩; have R7 := Lib.hid (R6.out.step hb); have L7 := Lib.hid hl; clear hb hl)
              | (go_at_call 22; (with_reducible refine (KD.out _ R7.out).mono ?_); rintro e w8 ⟨H, g, rfl, hl, hb⟩; have R8 := Lib.hid (R7.out.step hb); have L8 := Lib.hid hl; have M8 := Lib.hid (L7.out.rb hb); clear hb hl)
              | (go_at_call 14; (with_reducible refine (EB.out _ _ _ _ _ M8.out L8.out).mono ?_); rintro e w9 ⟨rfl, hb⟩; have R9 := Lib.hid (R8.out.step hb); clear hb)
              | (go_at_call 11; (with_reducible refine (c_awake R9.out).mono ?_); rintro e w10 ⟨rfl, hb⟩; have R10 := Lib.hid hb; clear hb))
            go_ret
            exact ⟨rfl, HW.out.step R10.out⟩
end Go.Proofs.Ytbphhdmnfepbnaa.Lab
