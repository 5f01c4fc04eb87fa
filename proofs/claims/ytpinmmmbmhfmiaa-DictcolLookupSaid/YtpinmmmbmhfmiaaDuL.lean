/- Layer 10: the program's reader: runs, columns. -/
import Derived.Test.YtpinmmmbmhfmiaaDuK
set_option linter.unusedVariables false
set_option linter.unusedSimpArgs false
namespace Go.Proofs.Ytpinmmmbmhfmiaa.Dt
open Go.RowKit Dc
/-- A list of strings that lies below B, not in block r. -/
def StrsN (r B : Nat) (w : World) (v : Value) (l : List BA) : Prop :=
  ∃ a cap, v = .slice a l.length cap ∧ l.length ≤ cap ∧ (0 < l.length → ∃ b off, a = some ⟨b, off, none⟩ ∧ b < B ∧ b ≠ r ∧ ∀ j, j < l.length → w.cell? ⟨b, off + j, none⟩ = some (.string (l[j]?.getD ⟨#[]⟩)))
theorem StrsN.of_own {B r : Nat} {w : World} {v : Value} {l : List BA} {s : List UInt8} (h : OwnS B w v l) (hR : Rest w r s) : StrsN r w.heap.size w v l := by
  have hne := Boxed.not_row hR (by decide) h
  rcases h.2 with ⟨rfl, h0⟩ | ⟨g, cap, cur, rfl, hb, hg, hnc, _⟩
  · exact ⟨none, 0, by rw [h0], by omega, fun hp => by omega⟩
  · refine ⟨_, cap, rfl, hnc, fun hp => ⟨g, 0, rfl, (h.lt g rfl).2, fun e => hne (by rw [e]; rfl), fun j hj => ?_⟩⟩
    have := h.cells (g := g) rfl j _ (sc_at hj)
    rwa [add_lit] at this
theorem own_lower {W : World} {b c : Nat} {v : Value} {l : List BA} (h : OwnS b W v l) (hc : c ≤ b) : OwnS c W v l := by
  obtain ⟨h1, h2⟩ := h
  refine ⟨h1, h2.imp id ?_⟩
  rintro ⟨g, cap, cur, e1, hb, r⟩
  exact ⟨g, cap, cur, e1, Nat.le_trans hc hb, r⟩
def slLn : Value → Nat
  | .slice _ n _ => n
  | _ => 0
set_option maxHeartbeats 2000000 in
set_option maxRecDepth 100000 in
theorem rruns_any (n : Nat) (hn : n ≤ 2000) (d : List BA) (hd : d.length ≤ 2000) (s : List UInt8) (hl : s.length ≤ 4294967000) (r : Nat) (dv : Value) (w : World) (hR : Rest w r s) (hI : StrsN r w.heap.size w dv d) :
    Calls Try.prog 57 #[.pointer (some ⟨r, 0, none⟩), .int .i64 n, dv] w fun e w' => (∃ v, e = .returned v ∧ OwnS w.heap.size w' v (runL d n s).1) ∧ w.grownBy w' (some r) := by
  obtain ⟨i0, hi, hz0, hz1, hz2⟩ := info_parts infoS
  have hr : r < w.heap.size := hR.lt
  obtain ⟨a, cap, rfl, hcap, hcx⟩ := hI
  have HX := Lib.hid hcx
  have HF0 : Hid ((d = [] → (runL d n s).1 = []) ∧ (d ≠ [] → (runL d n s).1 = (runF d n n [] s).1)) := Lib.hid ⟨fun h => by unfold runL; rw [if_pos h], fun h => by unfold runL; rw [if_neg h]⟩
  have R0 := Lib.hid hR
  obtain ⟨R, hRR⟩ : ∃ R, (runL d n s).1 = R := ⟨_, rfl⟩
  rw [hRR] at HF0 ⊢
  have hsl : Hid (s.length ≤ 4294967000) := Lib.hid hl
  clear hRR hcx hR hl
  go_enter Try.func57, Try.ntmps57
  go_wp2
  go_loopw [7] (fun vl wr => ∃ (l : List BA) (z : List UInt8) (f : Nat), l.length ≤ n ∧ n ≤ l.length + f ∧ slLn vl = l.length ∧ z.length ≤ 4294967000 ∧ Hid (OwnS w.heap.size wr vl l) ∧ Hid (Rest wr r z) ∧ Hid (w.grownBy wr (some r)) ∧ Hid ((d = [] → R = l) ∧ (d ≠ [] → R = (runF d n f l z).1)))
    (fun vl _ => n - slLn vl)
  case atStart => exact ⟨[], s, n, Nat.zero_le _, by simp, rfl, hsl.out, Lib.hid (OwnS.nil_ _ _), R0, Lib.hid (World.grownBy.refl _ _), HF0⟩
  case round =>
    obtain ⟨l, z, f, hln, hlf, hsv, hzl, HO, HR, HG, HF⟩ := hrel
    clear R0 HF0 hsl
    by_cases hd0 : d = []
    · have HF1 := Lib.hid (HF.out.1 hd0)
      subst hd0
      obtain ⟨A, c, rfl⟩ := own_form HO.out
      clear HF
      go_wp2
      go_ret
      exact ⟨⟨_, rfl, by rw [HF1.out]; exact HO.out⟩, HG.out⟩
    · have HF1 := Lib.hid (HF.out.2 hd0)
      have hp := List.length_pos_iff.2 hd0
      have hpi : (0 : Int) < d.length := by omega
      by_cases hlt : l.length < n
      · obtain ⟨g, rfl⟩ : ∃ g, f = g + 1 := ⟨f - 1, by omega⟩
        have hlti : (l.length : Int) < n := by omega
        have HS := Lib.hid (runF_step d n g hlt z)
        have hi1 := upT_le (most := (d.length : Int) - 1) (by omega) z
        have hi2 := upT_len ((d.length : Int) - 1) z
        have HA := Lib.hid (upTo_any ((d.length : Int) - 1) z hzl r wr HR.out)
        obtain ⟨p, hpp⟩ : ∃ p, upT ((d.length : Int) - 1) z = p := ⟨_, rfl⟩
        rw [hpp] at HS hi1 hi2 HA
        have hk1 := upT_le (most := (n : Int) - l.length - 1) (by omega) p.2
        have hk2 := upT_len ((n : Int) - l.length - 1) p.2
        have HB := Lib.hid fun w hR => upTo_any ((n : Int) - l.length - 1) p.2 (Nat.le_trans hi2 hzl) r w hR
        obtain ⟨q, hqq⟩ : ∃ q, upT ((n : Int) - l.length - 1) p.2 = q := ⟨_, rfl⟩
        rw [hqq] at HS hk1 hk2 HB
        have hpd : p.1 < d.length := by omega
        obtain ⟨b, off, rfl, hb, hbr, hcc⟩ := HX.out hp
        have hcell := hcc p.1 hpd
        obtain ⟨x, hx⟩ : ∃ x, d[p.1]?.getD ⟨#[]⟩ = x := ⟨_, rfl⟩
        rw [hx] at HS hcell
        have HC := Lib.hid hcell
        have hqn : q.1 + 1 ≤ n := by omega
        have hql : l.length + (q.1 + 1) ≤ n := by omega
        have hq2 : q.2.length ≤ 4294967000 := by omega
        obtain ⟨A, c, rfl⟩ := own_form HO.out
        clear hcc hcell hqq hpp hx hi1 hi2 hk1 hk2 HF HR hd0
        go_wp2_with fail
        refine HA.out.mono ?_
        rintro e w1 ⟨rfl, hr1, hg1⟩
        have G1 := Lib.hid (HG.out.trans hg1)
        have O1 := Lib.hid (own_other HO.out hg1 hr)
        have H2 := Lib.hid (HB.out w1 hr1)
        clear hr1 hg1 HA HB HO HG
        go_wp2_with fail
        refine H2.out.mono ?_
        rintro e w2 ⟨rfl, hr2, hg2⟩
        have G2 := Lib.hid (G1.out.trans hg2)
        have O2 := Lib.hid (own_other O1.out hg2 hr)
        have R2 := Lib.hid hr2
        have hc2 : w2.cell? ⟨b, off + p.1, none⟩ = some (.string x) := (World.cell?_of_block (a := ⟨b, off + p.1, none⟩) (G2.out.block b hb (fun e => hbr (by cases e; rfl)))).trans HC.out
        have HP := Lib.hid (repeat_any x (q.1 + 1) (by omega) (by omega) b (off + p.1) (cap - p.1) w2 (Nat.lt_of_lt_of_le hb G2.out.size) hc2)
        rw [show ((q.1 + 1 : Nat) : Int) = (q.1 : Int) + 1 by omega] at HP
        obtain ⟨rep, hrep⟩ : ∃ rep, List.replicate (q.1 + 1) x = rep := ⟨_, rfl⟩
        have hrl : rep.length = q.1 + 1 := by rw [← hrep, List.length_replicate]
        have HRL := Lib.hid hrl
        rw [hrep] at HP HS
        have hpi2 : (p.1 : Int) < d.length := by omega
        have hcne : ¬ cap = p.1 := by omega
        clear hr2 hg2 H2 O1 G1 hrl hrep
        go_wp2_with fail
        refine HP.out.mono ?_
        rintro e w3 ⟨v3, rfl, ho3, hb3⟩
        have G3 := Lib.hid (G2.out.trans (below_grown hb3 (some r)))
        have O3 := Lib.hid (O2.out.step hb3)
        have R3 := Lib.hid (Rest.below R2.out hb3)
        obtain ⟨A3, c3, rfl⟩ := own_form ho3
        have RD := Lib.hid (Reads.of_own ho3)
        have hrz : rep.length ≤ 2000 := by rw [HRL.out]; omega
        clear ho3 hb3 G2 O2 R2 HP hc2
        go_wp2_with (at_builtin; refine wpList_append_any _ rfl _ _ 22 rfl w.heap.size 9 i0 _ 1 16 Try.underlying22 hi hz0 hz1 hz2 rfl (by decide) (.slice A l.length c) l.length (sc l) rfl O3.out w3.heap.size A3 rep.length c3 (sc rep) rfl RD.out (sc_one rep) (by simp only [maxLen]; omega) (by omega) (by have := G3.out.size; omega) ?_; intro v5 w5 ho5 hg5 _; have O5 := Lib.hid ho5; have G5 := Lib.hid (grown_past G3.out hg5 (fun g e => (World.ownsRow.lt O3.out g e).1)); have R5 := Lib.hid (Rest.kept R3.out hg5 (fun e => by have := (World.ownsRow.lt O3.out r e.symm).1; omega)); clear ho5 hg5)
        have O6 : Hid (OwnS w.heap.size w5 v5 (l ++ rep)) := Lib.hid (by have := O5.out; rw [sc_app, ← List.length_append] at this; exact this)
        obtain ⟨A6, c6, rfl⟩ := own_form O6.out
        have hl6 : (l ++ rep).length = l.length + (q.1 + 1) := by rw [List.length_append, HRL.out]
        have HF6 : Hid ((d = [] → R = l ++ rep) ∧ (d ≠ [] → R = (runF d n g (l ++ rep) q.2).1)) := Lib.hid ⟨fun e => absurd e (List.length_pos_iff.1 hp), fun _ => by rw [HF1.out, HS.out]⟩
        clear O5 O3 G3 R3 RD
        go_roundw
        case rel => exact ⟨l ++ rep, q.2, g, by omega, by omega, rfl, hq2, O6, R5, G5, HF6⟩
        case measure =>
          have hm := HRL.out
          simp [slLn]
          omega
      · have HE : Hid (R = l) := Lib.hid (by rw [HF1.out, runF_end d n hlt])
        obtain ⟨A, c, rfl⟩ := own_form HO.out
        clear HF HF1
        go_wp2
        go_ret
        exact ⟨⟨_, rfl, by rw [HE.out]; exact HO.out⟩, HG.out⟩
set_option maxHeartbeats 1000000 in
theorem column_any (s : List UInt8) (hl : s.length ≤ 4294967000) (r : Nat) (w : World) (hR : Rest w r s) :
    Calls Try.prog 41 #[.pointer (some ⟨r, 0, none⟩)] w fun e w' => (∃ v, e = .returned v ∧ OwnS w.heap.size w' v (colL s)) ∧ w.grownBy w' (some r) := by
  have HA := Lib.hid (upTo_any 2000 s hl r w hR)
  have h1 := upT_le (most := 2000) (by omega) s
  have h2 := upT_len 2000 s
  have HC : Hid (colL s = (runL (dicL (upT 2000 s).1 (upT 2000 s).2).1 (upT 2000 s).1 (dicL (upT 2000 s).1 (upT 2000 s).2).2).1) := Lib.hid rfl
  obtain ⟨p, hp⟩ : ∃ p, upT 2000 s = p := ⟨_, rfl⟩
  rw [hp] at HA h1 h2 HC
  obtain ⟨hd1, _, hd3⟩ := dicL_ok p.1 p.2
  have hpl : p.1 ≤ 2000 := by omega
  have hp2 : p.2.length ≤ 4294967000 := Nat.le_trans h2 hl
  have HD := Lib.hid fun w hR => rdict_any p.1 hpl p.2 hp2 r w hR
  obtain ⟨d, hd⟩ : ∃ d, dicL p.1 p.2 = d := ⟨_, rfl⟩
  rw [hd] at HC hd1 hd3 HD
  have HE := Lib.hid fun dv w hR hI => rruns_any p.1 hpl d.1 (Nat.le_trans hd1 hpl) d.2 (Nat.le_trans hd3 hp2) r dv w hR hI
  have hr : r < w.heap.size := hR.lt
  obtain ⟨R, hRR⟩ : ∃ R, colL s = R := ⟨_, rfl⟩
  rw [hRR] at HC ⊢
  rw [← HC.out] at HE
  clear hp hd hd1 hd3 h1 h2 hRR hR
  go_enter Try.func41, Try.ntmps41
  go_wp2_with fail
  refine HA.out.mono ?_
  rintro e w1 ⟨rfl, hr1, hg1⟩
  have G1 := Lib.hid hg1
  have H2 := Lib.hid (HD.out w1 hr1)
  clear hr1 hg1 HA HD
  go_wp2_with fail
  refine H2.out.mono ?_
  rintro e w2 ⟨⟨v2, rfl, ho2⟩, hr2, hg2⟩
  have G2 := Lib.hid (G1.out.trans hg2)
  have H3 := Lib.hid (HE.out v2 w2 hr2 (StrsN.of_own ho2 hr2))
  obtain ⟨A2, c2, rfl⟩ := own_form ho2
  clear ho2 hr2 hg2 H2 HE G1
  go_wp2_with fail
  refine H3.out.mono ?_
  rintro e w3 ⟨⟨v3, rfl, ho3⟩, hg3⟩
  have G3 := Lib.hid (G2.out.trans hg3)
  have O3 : Hid (OwnS w.heap.size w3 v3 R) := Lib.hid (own_lower ho3 G2.out.size)
  obtain ⟨A3, c3, rfl⟩ := own_form ho3
  clear ho3 hg3 H3 G2
  go_wp2
  go_ret
  exact ⟨⟨_, rfl, O3.out⟩, G3.out⟩
end Go.Proofs.Ytpinmmmbmhfmiaa.Dt
