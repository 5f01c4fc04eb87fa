/- Layer 5: the walk of LabelsWith. -/
import Derived.Lib.QuietBelow
import Derived.Deep.QuietTactic
import Derived.BigQuiet
import Derived.Test.YtbphhdmnfepbnaaMW
import Derived.Test.YtbphhdmnfepbnaaWS
set_option linter.unusedVariables false
set_option linter.unusedSimpArgs false
namespace Go.Proofs.Ytbphhdmnfepbnaa.Lab
open Go.RowKit Go.Sort
theorem one_ls (w : World) (n v : ByteArray) : LS (w.alloc (.cells #[.string n, .string v] 29)) (w.heap.size + 1) (some ⟨w.heap.size, 0, none⟩) [⟨n, v⟩] := fun _ => by
  refine ⟨_, 0, rfl, by omega, fun j hj => ?_⟩
  have : j = 0 := by simpa using hj
  subst this
  constructor <;> simp
theorem with_sz {l : List Lb} {n v : ByteArray} (h : Sm l) (hn : n.size ≤ 300) (hv : v.size ≤ 300) : ∀ x ∈ withL l n v, x.n.size ≤ 300 ∧ x.v.size ≤ 300 := by
  have hk := (h.keep false [n]).sz
  intro x hx
  cases hq : v.toList.isEmpty with
  | true => rw [withL_nil hq] at hx; exact hk x hx
  | false =>
    rw [withL_ins hq] at hx
    unfold insL at hx
    rcases List.mem_append.1 hx with h1 | h1
    · exact hk x (List.mem_of_mem_take h1)
    · rcases List.mem_cons.1 h1 with rfl | h1
      · exact ⟨hn, hv⟩
      · exact hk x (List.mem_of_mem_drop h1)
set_option maxRecDepth 100000 in
set_option maxHeartbeats 8000000 in
theorem with_walk (A : Option Addr) (c : Nat) (l : List Lb) (hm : l.length ≤ maxLen) (hz : ∀ x ∈ l, x.n.size ≤ maxLen ∧ x.v.size ≤ maxLen)
    (n : ByteArray) (hn : n.size ≤ maxLen) (v : ByteArray) (hv : v.size ≤ maxLen) (w : World) (hL : LS w w.heap.size A l) :
    Calls Try.prog 8 #[.slice A l.length c, .string n, .string v] w fun e w' => e = .returned (.bool true) ∧ Below w.heap.size w w' := by
  have G := Lib.hid (c_great1 l hm hz A c w hL)
  have R0 : Hid (RB w (w.alloc (.cells #[.slice A l.length c] 22))) := (RB.refl w).alloc _
  have X := Lib.hid hL
  unfold maxLen at hm hn hv
  clear hL hz
  cases hg : greatL l with
  | true =>
    rw [hg] at G
    clear hg
    go_enter Try.func8, Try.ntmps8
    go_wp2_with (first
      | (go_at_call 10; (with_reducible refine G.out.mono ?_); rintro e w1 ⟨rfl, rfl⟩)
      | (go_at_call 11; (with_reducible refine (c_awake R0.out).mono ?_); rintro e w2 ⟨rfl, hb⟩; have R2 := Lib.hid hb; clear hb))
    go_ret
    exact ⟨rfl, R2.out⟩
  | false =>
    have hsm := great_sm hg
    have SM := Lib.hid hsm
    have hl17 := hsm.len
    rw [hg] at G
    clear hg hsm
    by_cases h3 : 201 < n.size
    · go_enter Try.func8, Try.ntmps8
      go_wp2_with (first
        | (go_at_call 10; (with_reducible refine G.out.mono ?_); rintro e w1 ⟨rfl, rfl⟩)
        | (go_at_call 11; (with_reducible refine (c_awake R0.out).mono ?_); rintro e w2 ⟨rfl, hb⟩; have R2 := Lib.hid hb; clear hb))
      go_ret
      exact ⟨rfl, R2.out⟩
    · by_cases h4 : 201 < v.size
      · go_enter Try.func8, Try.ntmps8
        go_wp2_with (first
          | (go_at_call 10; (with_reducible refine G.out.mono ?_); rintro e w1 ⟨rfl, rfl⟩)
          | (go_at_call 11; (with_reducible refine (c_awake R0.out).mono ?_); rintro e w2 ⟨rfl, hb⟩; have R2 := Lib.hid hb; clear hb))
        go_ret
        exact ⟨rfl, R2.out⟩
      · have hmL : (withL l n v).length ≤ 18 := Nat.le_trans (withL_len l n v) (by omega)
        have hmx : ∀ x ∈ withL l n v, x.n.size ≤ 300 ∧ x.v.size ≤ 300 := with_sz SM.out (by omega) (by omega)
        have hwg := with_get l n v
        have hwo := with_other l n v
        have hwd := with_drop l n v
        have hwc : chk l = 0 → chk [⟨n, ⟨#[120]⟩⟩] = 0 → ¬ 200 < v.size → ¬ 16 < (withL l n v).length → chk (withL l n v) = 0 := fun h1 h2 h3 h4 => with_chk h1 (one_chk h2) (by omega) (by omega)
        have W15 : Hid (Calls Try.prog 15 #[.slice A l.length c, .string n, .string v] (w.alloc (.cells #[.slice A l.length c] 22)) (MadePost (w.alloc (.cells #[.slice A l.length c] 22)) (withL l n v))) := c_with l SM.out A c n v (X.out.rb R0.out) (RB.refl _)
        generalize withL l n v = m at *
        have WG := Lib.hid hwg
        have WO := Lib.hid hwo
        have WD := Lib.hid hwd
        have WC := Lib.hid hwc
        have MX := Lib.hid hmx
        have C12 : Hid (∀ V D e, LS V V.heap.size D m → Calls Try.prog 12 #[.slice D m.length e, .string n] V fun e w' => e = .returned (.string v) ∧ RB V w') := fun V D e h => (get_any m (by omega) n D e V h).mono fun _ _ ⟨he, hb⟩ => ⟨by rw [he, WG.out], hb⟩
        clear hwg hwo hwd hwc hmx
        go_enter Try.func8, Try.ntmps8
        go_wp2_with (first
          | (go_at_call 10; (with_reducible refine G.out.mono ?_); rintro e w1 ⟨rfl, rfl⟩)
          | (go_at_call 15; (with_reducible refine W15.out.mono ?_); rintro e w2 ⟨D, d, rfl, hl, hb⟩; have R2 := Lib.hid (R0.out.step hb); have L2 := Lib.hid hl; clear hb hl)
          | (go_at_call 12; (with_reducible refine (C12.out _ _ _ L2.out).mono ?_); rintro e w3 ⟨rfl, hb⟩; have R3 := Lib.hid hb; have X3 := Lib.hid ((X.out.rb R2.out).rb hb); have L3 := Lib.hid (L2.out.rb hb); clear hb))
        have Z0 : Hid (RB w3 w3) := RB.refl w3
        go_loopw [36] (fun vj wr => ∃ j : Nat, j ≤ l.length ∧ vj = .int .i64 (j : Int) ∧ Hid (RB w3 wr)) (fun vj _ => l.length - (intOf vj).toNat)
        case atStart => exact ⟨0, by omega, rfl, Z0⟩
        case round =>
          clear Z0
          obtain ⟨j, hj, rfl, HW⟩ := hrel
          by_cases hlt : j < l.length
          · obtain ⟨bl, off, rfl, hbl, h1, h2⟩ := (X3.out.rb HW.out).at_ hlt
            generalize l[j] = x at *
            cases he : eqS n x.n with
            | true =>
              have e1 : (x.n.toList == n.toList) = true := by rw [eqS_comm] at he; exact he
              clear he
              go_wp2
              go_quiet (fail)
              go_wp2
              go_roundw
              case rel => exact ⟨j + 1, by omega, by go_num, (HW.out.alloc _).drewN _⟩
              case measure => simp [intOf]; omega
            | false =>
              have e1 : (x.n.toList == n.toList) = false := by have h := he; rw [eqS_comm] at h; exact h
              have hq : ∀ dd os, (grow (redrawn (wr.alloc (.cells #[.string x.n, .string x.v] 29)) dd) os).cell? ⟨wr.heap.size, 0, none⟩ = some (.string x.n) := fun dd os => cell_regrown (by simp) dd os
              have GA : Hid (∀ dd os, Calls Try.prog 12 #[.slice D m.length d, .string x.n] (grow (redrawn (wr.alloc (.cells #[.string x.n, .string x.v] 29)) dd) os) fun e w' => e = .returned (.string (getL l x.n)) ∧ Below (grow (redrawn (wr.alloc (.cells #[.string x.n, .string x.v] 29)) dd) os).heap.size (grow (redrawn (wr.alloc (.cells #[.string x.n, .string x.v] 29)) dd) os) w') := fun dd os => by
                rw [← WO.out x.n he]
                exact get_any m (by omega) x.n D d _ ((L3.out.rb (HW.out.alloc _)).rb (below_regrown _ dd os))
              have GB : Hid (∀ dd os, Calls Try.prog 12 #[.slice (some ⟨bl, off, none⟩) l.length c, .string x.n] (grow (redrawn (wr.alloc (.cells #[.string x.n, .string x.v] 29)) dd) os) fun e w' => e = .returned (.string (getL l x.n)) ∧ Below (grow (redrawn (wr.alloc (.cells #[.string x.n, .string x.v] 29)) dd) os).heap.size (grow (redrawn (wr.alloc (.cells #[.string x.n, .string x.v] 29)) dd) os) w') := fun dd os =>
                get_any l (by omega) x.n (some ⟨bl, off, none⟩) c _ ((X3.out.rb (HW.out.alloc _)).rb (below_regrown _ dd os))
              have mixed : Try.prog.follows .mixedOrders = true := by kernel_rfl
              clear he
              generalize getL l x.n = gg at *
              go_wp2
              refine wp_region_quiet_below (by assumption) (by kernel_rfl) ?_
              iterate 8 quiet_step (fail)
              quiet_step (exact Calls.regrown_of (GA.out _ _))
              iterate 3 quiet_step (fail)
              quiet_step (exact Calls.regrown_of (GB.out _ _))
              iterate 2 quiet_step (fail)
              refine wpQuiet_nil ?_
              intro _ hw'
              obtain ⟨⟨dq, osq⟩, hw''⟩ := hw'
              subst hw''
              have HZ : Hid (RB w3 (grow (redrawn (wr.alloc (.cells #[.string x.n, .string x.v] 29)) dq) osq)) := (HW.out.alloc _).step (below_regrown _ dq osq)
              generalize grow (redrawn (wr.alloc (.cells #[.string x.n, .string x.v] 29)) dq) osq = WZ at *
              go_wp2_with fail
              go_roundw
              case rel => exact ⟨j + 1, by omega, by go_num, HZ⟩
              case measure => simp [intOf]; omega
          · have R4 := Lib.hid ((R2.out.step R3.out).step HW.out)
            have X4 := Lib.hid (X3.out.rb HW.out)
            have L4 := Lib.hid (L3.out.rb HW.out)
            have Z1 : Hid (RB (wr.alloc (.cells #[.string n, .string ⟨#[120]⟩] 29)) (wr.alloc (.cells #[.string n, .string ⟨#[120]⟩] 29))) := RB.refl _
            have RW : Hid (RB wr (wr.alloc (.cells #[.string n, .string ⟨#[120]⟩] 29))) := (RB.refl wr).alloc _
            have hone : Sm [⟨n, ⟨#[120]⟩⟩] := ⟨by simp, by intro x hx; rw [List.mem_singleton] at hx; subst hx; exact ⟨by show n.size ≤ 300; omega, by show (⟨#[120]⟩ : ByteArray).size ≤ 300; decide⟩⟩
            have hsm : Sm m ∨ 17 < m.length := by
              by_cases h : 17 < m.length
              · exact .inr h
              · exact .inl ⟨by omega, MX.out⟩
            obtain ⟨q1, hq1⟩ : ∃ q1, chk l = q1 := ⟨_, rfl⟩
            obtain ⟨q2, hq2⟩ : ∃ q2, chk [⟨n, ⟨#[120]⟩⟩] = q2 := ⟨_, rfl⟩
            have K1 : Hid (∀ V, RB (wr.alloc (.cells #[.string n, .string ⟨#[120]⟩] 29)) V → Calls Try.prog 17 #[.slice A l.length c] V fun e w' => e = .returned (.int .i64 q1) ∧ RB (wr.alloc (.cells #[.string n, .string ⟨#[120]⟩] 29)) w') := fun V h => by rw [← hq1]; exact c_check l SM.out A c ((X4.out.rb RW.out).rb h) h
            have K2 : Hid (∀ V, RB (wr.alloc (.cells #[.string n, .string ⟨#[120]⟩] 29)) V → Calls Try.prog 17 #[.slice (some ⟨wr.heap.size, 0, none⟩) 1 1] V fun e w' => e = .returned (.int .i64 q2) ∧ RB (wr.alloc (.cells #[.string n, .string ⟨#[120]⟩] 29)) w') := fun V h => by
              rw [← hq2]
              exact c_check [⟨n, ⟨#[120]⟩⟩] hone (some ⟨wr.heap.size, 0, none⟩) 1 (((one_ls wr n ⟨#[120]⟩).more (by simp)).rb h) h
            have K3 : Hid (Sm m → ∀ V, RB (wr.alloc (.cells #[.string n, .string ⟨#[120]⟩] 29)) V → Calls Try.prog 17 #[.slice D m.length d] V fun e w' => e = .returned (.int .i64 (chk m)) ∧ RB (wr.alloc (.cells #[.string n, .string ⟨#[120]⟩] 29)) w') := fun hh V h => c_check m hh D d ((L4.out.rb RW.out).rb h) h
            have K4 : Hid (Sm m → ∀ V, RB (wr.alloc (.cells #[.string n, .string ⟨#[120]⟩] 29)) V → Calls Try.prog 21 #[.slice D m.length d, .slice (some ⟨V.heap.size, 0, none⟩) 1 1] (V.alloc (.cells #[.string n] 9)) (MadePost V (keepL false [n] l))) := fun hh V h => by
              rw [← WD.out]
              exact (c_drop (w0 := V) m hh D d [n] (by unfold maxLen; simp) (some ⟨V.heap.size, 0, none⟩) 1 (((L4.out.rb RW.out).rb h).rb ((RB.refl V).alloc _)) ((names_one V n).more (by simp)) ((RB.refl V).alloc _))
            have K5 : Hid (∀ V, RB (wr.alloc (.cells #[.string n, .string ⟨#[120]⟩] 29)) V → Calls Try.prog 21 #[.slice A l.length c, .slice (some ⟨V.heap.size, 0, none⟩) 1 1] (V.alloc (.cells #[.string n] 9)) (MadePost V (keepL false [n] l))) := fun V h =>
              c_drop (w0 := V) l SM.out A c [n] (by unfold maxLen; simp) (some ⟨V.heap.size, 0, none⟩) 1 (((X4.out.rb RW.out).rb h).rb ((RB.refl V).alloc _)) ((names_one V n).more (by simp)) ((RB.refl V).alloc _)
            have K6 : Hid (∀ V D m E n', LS V V.heap.size D (keepL false [n] l) → LS V V.heap.size E (keepL false [n] l) → Calls Try.prog 14 #[.slice D (keepL false [n] l).length m, .slice E (keepL false [n] l).length n'] V fun e w' => e = .returned (.bool true) ∧ RB V w') := fun V D m E n' h1 h2 => c_same _ (SM.out.keep _ _).maxLen_ D E m n' h1 h2 (RB.refl V)
            rw [hq1, hq2] at WC
            clear hq1 hq2 hone
            generalize keepL false [n] l = r at *
            by_cases g1 : q1 = 0
            · have gb1 : (q1 == 0) = true := by simp [g1]
              have gn1 : (q1 != 0) = false := by simp [g1]
              by_cases g2 : q2 = 0
              · have gb2 : (q2 == 0) = true := by simp [g2]
                have gn2 : (q2 != 0) = false := by simp [g2]
                by_cases g3 : 200 < v.size
                · clear g1 g2 hsm
                  go_wp2_with (first
                    | (go_at_call 17; (with_reducible refine (K1.out _ Z1.out).mono ?_); rintro e w4 ⟨rfl, hb⟩; have T4 := Lib.hid hb; clear hb)
                    | (go_at_call 17; (with_reducible refine (K2.out _ T4.out).mono ?_); rintro e w5 ⟨rfl, hb⟩; have T5 := Lib.hid hb; clear hb)
                    | (go_at_call 11; (with_reducible refine (c_awake T5.out).mono ?_); rintro e w9 ⟨rfl, hb⟩; have T9 := Lib.hid hb; clear hb))
                  go_ret
                  exact ⟨rfl, (R4.out.alloc _).step T9.out⟩
                · by_cases g4 : 16 < m.length
                  · clear g1 g2 hsm
                    go_wp2_with (first
                      | (go_at_call 17; (with_reducible refine (K1.out _ Z1.out).mono ?_); rintro e w4 ⟨rfl, hb⟩; have T4 := Lib.hid hb; clear hb)
                      | (go_at_call 17; (with_reducible refine (K2.out _ T4.out).mono ?_); rintro e w5 ⟨rfl, hb⟩; have T5 := Lib.hid hb; clear hb)
                      | (go_at_call 11; (with_reducible refine (c_awake T5.out).mono ?_); rintro e w9 ⟨rfl, hb⟩; have T9 := Lib.hid hb; clear hb))
                    go_ret
                    exact ⟨rfl, (R4.out.alloc _).step T9.out⟩
                  · have hc := WC.out g1 g2 g3 g4
                    have hs : Sm m := by
                      rcases hsm with h | h
                      · exact h
                      · omega
                    have K3' := Lib.hid (K3.out hs)
                    have K4' := Lib.hid (K4.out hs)
                    rw [hc] at K3'
                    clear g1 g2 hc hs hsm K3 K4
                    go_wp2_with (first
                      | (go_at_call 17; (with_reducible refine (K1.out _ Z1.out).mono ?_); rintro e w4 ⟨rfl, hb⟩; have T4 := Lib.hid hb; clear hb)
                      | (go_at_call 17; (with_reducible refine (K2.out _ T4.out).mono ?_); rintro e w5 ⟨rfl, hb⟩; have T5 := Lib.hid hb; clear hb)
                      | (go_at_call 17; (with_reducible refine (K3'.out _ T5.out).mono ?_); rintro e w6 ⟨rfl, hb⟩; have T6 := Lib.hid hb; clear hb)
                      | (go_at_call 21; (with_reducible refine (K4'.out _ T6.out).mono ?_); rintro e w7 ⟨E, e7, rfl, hl, hb⟩; have T7 := Lib.hid (T6.out.step hb); have L7 := Lib.hid hl; clear hb hl)
                      | (go_at_call 21; (with_reducible refine (K5.out _ T7.out).mono ?_); rintro e w8 ⟨F, e8, rfl, hl, hb⟩; have T8 := Lib.hid (T7.out.step hb); have L8 := Lib.hid hl; have M8 := Lib.hid (L7.out.rb hb); clear hb hl)
                      | (go_at_call 14; (with_reducible refine (K6.out _ _ _ _ _ M8.out L8.out).mono ?_); rintro e w10 ⟨rfl, hb⟩; have T10 := Lib.hid (T8.out.step hb); clear hb)
                      | (go_at_call 11; (with_reducible refine (c_awake T10.out).mono ?_); rintro e w9 ⟨rfl, hb⟩; have T9 := Lib.hid hb; clear hb))
                    go_ret
                    exact ⟨rfl, (R4.out.alloc _).step T9.out⟩
              · have gb2 : (q2 == 0) = false := by simp [g2]
                have gn2 : (q2 != 0) = true := by simp [g2]
                clear g1 g2 hsm
                go_wp2_with (first
                  | (go_at_call 17; (with_reducible refine (K1.out _ Z1.out).mono ?_); rintro e w4 ⟨rfl, hb⟩; have T4 := Lib.hid hb; clear hb)
                  | (go_at_call 17; (with_reducible refine (K2.out _ T4.out).mono ?_); rintro e w5 ⟨rfl, hb⟩; have T5 := Lib.hid hb; clear hb)
                  | (go_at_call 11; (with_reducible refine (c_awake T5.out).mono ?_); rintro e w9 ⟨rfl, hb⟩; have T9 := Lib.hid hb; clear hb))
                go_ret
                exact ⟨rfl, (R4.out.alloc _).step T9.out⟩
            · have gb1 : (q1 == 0) = false := by simp [g1]
              have gn1 : (q1 != 0) = true := by simp [g1]
              clear g1 hsm
              go_wp2_with (first
                | (go_at_call 17; (with_reducible refine (K1.out _ Z1.out).mono ?_); rintro e w4 ⟨rfl, hb⟩; have T4 := Lib.hid hb; clear hb)
                | (go_at_call 11; (with_reducible refine (c_awake T4.out).mono ?_); rintro e w9 ⟨rfl, hb⟩; have T9 := Lib.hid hb; clear hb))
              go_ret
              exact ⟨rfl, (R4.out.alloc _).step T9.out⟩
end Go.Proofs.Ytbphhdmnfepbnaa.Lab
