/- Layer 10: the reference's read and words. -/
import Derived.Test.YtpinmmmbmhfmiaaDtC
set_option linter.unusedVariables false
set_option linter.unusedSimpArgs false
namespace Go.Proofs.Ytpinmmmbmhfmiaa.Dt
open Go.RowKit Dc
/-- What read hands back. -/
def rdOut (most : Int) (s : BA) : Value := match rdN most s.data.toList with
  | none => .tuple #[.int .i64 0, .string ⟨#[]⟩, .bool false]
  | some (n, r) => .tuple #[.int .i64 n, .string ⟨r.toArray⟩, .bool true]
theorem rdOut_none {most : Int} {s : BA} (h : rdN most s.data.toList = none) : rdOut most s = .tuple #[.int .i64 0, .string ⟨#[]⟩, .bool false] := by unfold rdOut; rw [h]
theorem rdOut_some {most : Int} {s : BA} {n : Nat} {r : List UInt8} (h : rdN most s.data.toList = some (n, r)) : rdOut most s = .tuple #[.int .i64 n, .string ⟨r.toArray⟩, .bool true] := by unfold rdOut; rw [h]
set_option maxHeartbeats 1000000 in
theorem read_ref_any (s : BA) (most : Int) (w : World) :
    Calls Try.prog 42 #[.string s, .int .i64 most] w fun e w' => e = .returned (rdOut most s) ∧ Below w.heap.size w w' := by
  have HR := Lib.hid (refRead_any s w)
  have h4 := @rd_sz 1152921504606846976 s.data.toList
  have hsl : s.data.toList.length = s.size := Array.length_toList
  have h1 : (rd 1152921504606846976 0 0 s.data.toList).2.2 ≠ 0 → rdOut most s = .tuple #[.int .i64 0, .string ⟨#[]⟩, .bool false] := fun h => rdOut_none (by unfold rdN; rw [if_pos h])
  have h2 : (rd 1152921504606846976 0 0 s.data.toList).2.2 = 0 → most < ((rd 1152921504606846976 0 0 s.data.toList).1 : Int) → rdOut most s = .tuple #[.int .i64 0, .string ⟨#[]⟩, .bool false] := fun h h2 => rdOut_none (by unfold rdN; rw [if_neg (by omega), if_pos h2])
  have h3 : (rd 1152921504606846976 0 0 s.data.toList).2.2 = 0 → ¬ most < ((rd 1152921504606846976 0 0 s.data.toList).1 : Int) → rdOut most s = .tuple #[.int .i64 (rd 1152921504606846976 0 0 s.data.toList).1, .string ⟨(s.data.toList.drop (rd 1152921504606846976 0 0 s.data.toList).2.1).toArray⟩, .bool true] := fun h h2 => rdOut_some (by unfold rdN; rw [if_neg (by omega), if_neg h2])
  rw [hsl] at h4
  have h5 : s.extract (rd 1152921504606846976 0 0 s.data.toList).2.1 s.size = ⟨(s.data.toList.drop (rd 1152921504606846976 0 0 s.data.toList).2.1).toArray⟩ := of_list (by rw [drop_ext])
  rw [← h5] at h3
  generalize rd 1152921504606846976 0 0 s.data.toList = q at *
  obtain ⟨n, k, e⟩ := q
  dsimp only at *
  have H1 := Lib.hid h1
  have H2 := Lib.hid h2
  have H3 := Lib.hid h3
  clear h1 h2 h3 h5 hsl
  by_cases he : e = 0
  · subst he
    by_cases hm : most < (n : Int)
    · have HE := Lib.hid (H2.out rfl hm)
      clear H1 H2 H3
      go_enter Try.func42, Try.ntmps42
      go_wp2_with fail
      refine HR.out.mono ?_
      rintro e w' ⟨rfl, rfl⟩
      go_wp2
      go_ret3
      rw [HE.out]
      exact ⟨rfl, Below.refl _ _⟩
    · have HE := Lib.hid (H3.out rfl hm)
      have hki : (k : Int) ≤ s.size := by omega
      clear H1 H2 H3
      go_enter Try.func42, Try.ntmps42
      go_wp2_with fail
      refine HR.out.mono ?_
      rintro e w' ⟨rfl, rfl⟩
      go_wp2
      go_quiet (fail)
      go_wp2
      go_ret3
      rw [HE.out]
      exact ⟨rfl, below_drewP (Below.refl _ _) _⟩
  · have HE := Lib.hid (H1.out he)
    have hne : ((e : Int) != 0) = true := by rw [bne_iff_ne]; omega
    clear H1 H2 H3 he
    go_enter Try.func42, Try.ntmps42
    go_wp2_with fail
    refine HR.out.mono ?_
    rintro e w' ⟨rfl, rfl⟩
    go_wp2
    go_ret3
    rw [HE.out]
    exact ⟨rfl, Below.refl _ _⟩
theorem mk_size' (l : List UInt8) : (⟨l.toArray⟩ : ByteArray).size = l.length := by show l.toArray.size = _; simp
/-- What words hands back. -/
def WordsQ (B : Nat) (w' : World) (r : Option (List BA × List UInt8)) (e : Ending) : Prop := (r = none → ∃ v l, e = .returned (.tuple #[v, .string ⟨#[]⟩, .bool false]) ∧ OwnS B w' v l) ∧ (∀ d z, r = some (d, z) → ∃ v, e = .returned (.tuple #[v, .string ⟨z.toArray⟩, .bool true]) ∧ OwnS B w' v d)
theorem WordsQ.no {B : Nat} {w' : World} {r : Option (List BA × List UInt8)} {v : Value} {l : List BA} (h : r = none) (ho : OwnS B w' v l) : WordsQ B w' r (.returned (.tuple #[v, .string ⟨#[]⟩, .bool false])) := ⟨fun _ => ⟨v, l, rfl, ho⟩, fun d z e => (by rw [h] at e; cases e)⟩
theorem WordsQ.yes {B : Nat} {w' : World} {r : Option (List BA × List UInt8)} {v : Value} {d : List BA} {z : List UInt8} (h : r = some (d, z)) (ho : OwnS B w' v d) : WordsQ B w' r (.returned (.tuple #[v, .string ⟨z.toArray⟩, .bool true])) := ⟨fun e => (by rw [h] at e; cases e), fun d' z' e => (by rw [h] at e; cases e; exact ⟨v, rfl, ho⟩)⟩
def addW (d : List BA) (r : Option (List BA × List UInt8)) : Option (List BA × List UInt8) := r.map fun p => (d ++ p.1, p.2)
theorem rdN_nil (most : Int) : rdN most [] = none := by
  unfold rdN
  rw [rd_nil]
  rfl
theorem rdN_most {most : Int} {s r : List UInt8} {n : Nat} (h : rdN most s = some (n, r)) : (n : Int) ≤ most := by
  unfold rdN at h
  by_cases h1 : (rd 1152921504606846976 0 0 s).2.2 ≠ 0
  · rw [if_pos h1] at h; cases h
  · rw [if_neg h1] at h
    by_cases h2 : most < ((rd 1152921504606846976 0 0 s).1 : Int)
    · rw [if_pos h2] at h; cases h
    · rw [if_neg h2] at h
      cases h
      omega
theorem words_no1 {m : Nat} {last rest : List UInt8} (h : rdN last.length rest = none) : wordsP (m + 1) last rest = none := by rw [wordsP, h]
theorem words_no2 {m p : Nat} {last rest r : List UInt8} (h : rdN last.length rest = some (p, r)) (h2 : rdN 1000 r = none) : wordsP (m + 1) last rest = none := by rw [wordsP, h]; dsimp only; rw [h2]
theorem words_no3 {m p q : Nat} {last rest r z : List UInt8} (h : rdN last.length rest = some (p, r)) (h2 : rdN 1000 r = some (q, z)) (h3 : z.length < q ∨ 1000 < p + q) : wordsP (m + 1) last rest = none := by rw [wordsP, h]; dsimp only; rw [h2]; dsimp only; rw [if_pos h3]
theorem words_go {m p q : Nat} {last rest r z : List UInt8} (d : List BA) (h : rdN last.length rest = some (p, r)) (h2 : rdN 1000 r = some (q, z)) (h3 : ¬ (z.length < q ∨ 1000 < p + q)) : addW d (wordsP (m + 1) last rest) = addW (d ++ [⟨(last.take p ++ z.take q).toArray⟩]) (wordsP m (last.take p ++ z.take q) (z.drop q)) := by
  rw [wordsP, h]; dsimp only; rw [h2]; dsimp only; rw [if_neg h3]
  cases wordsP m (last.take p ++ z.take q) (z.drop q) with
  | none => rfl
  | some x => simp [addW]
theorem addW_none {d : List BA} {r : Option (List BA × List UInt8)} (h : r = none) : addW d r = none := by rw [h]; rfl
theorem words_ar {p q ls ll zs zl : Nat} (hll : ll = ls) (hls : ls ≤ 1000) (hp : (p : Int) ≤ (ll : Int)) (hq : (q : Int) ≤ 1000) (hzs : zs = zl) : (p : Int) ≤ (ls : Int) ∧ wrap64 ((p : Int) + q) = (p : Int) + q ∧ (zl < q ∨ 1000 < p + q → ((zs : Int) < q) ∨ (¬ (zs : Int) < q ∧ (1000 : Int) < (p : Int) + q)) ∧ (¬ (zl < q ∨ 1000 < p + q) → ¬ ((zs : Int) < q) ∧ (q : Int) ≤ zs ∧ ¬ ((1000 : Int) < (p : Int) + q) ∧ q ≤ zs ∧ p ≤ ls ∧ p + q ≤ 1000) := by
  refine ⟨by omega, by unfold wrap64; omega, fun h => by omega, fun h => by omega⟩
theorem take2_len (a b : List UInt8) (p q : Nat) : (a.take p ++ b.take q).length ≤ p + q := by
  rw [List.length_append, List.length_take, List.length_take]
  omega
theorem ext_pre (s : BA) (k : Nat) (h : k ≤ s.size) : (s.extract 0 k).data.toList = s.data.toList.take k := by
  rw [ByteArray.data_extract, Array.toList_extract]
  simp
set_option maxHeartbeats 4000000 in
set_option maxRecDepth 100000 in
theorem words_any (n : Nat) (hn : n ≤ 2000) (s : BA) (w : World) (R : Option (List BA × List UInt8)) (hR : wordsP n [] s.data.toList = R) :
    Calls Try.prog 43 #[.string s, .int .i64 n] w fun e w' => WordsQ w.heap.size w' R e ∧ Below w.heap.size w w' := by
  obtain ⟨i0, hi, hz0, hz1, hz2⟩ := info_parts infoS
  have O0 : Hid (OwnS w.heap.size (w.alloc (.cells #[] 9)) (.slice (some ⟨w.heap.size, 0, none⟩) 0 0) []) := World.ownsRow_made w #[] 0 (Nat.le_refl _) (by unfold maxLen; omega) (by simp)
  have B0 : Hid (Below w.heap.size w (w.alloc (.cells #[] 9))) := (Below.refl _ _).alloc (Nat.le_refl _) _
  have E0 : Hid (R = addW [] (wordsP (n - ([] : List BA).length) (⟨#[]⟩ : BA).data.toList s.data.toList)) := Lib.hid (by
    show R = addW [] (wordsP n [] s.data.toList)
    rw [hR]
    cases R with
    | none => rfl
    | some x => rfl)
  clear hR
  have HN0 : Hid (∀ v : World, Calls Try.prog 42 #[.string ⟨#[]⟩, .int .i64 1000] v fun e w' => e = .returned (.tuple #[.int .i64 0, .string ⟨#[]⟩, .bool false]) ∧ Below v.heap.size v w') := Lib.hid fun v => by
    have h := read_ref_any ⟨#[]⟩ 1000 v
    rwa [rdOut_none (rdN_nil _)] at h
  go_enter Try.func43, Try.ntmps43
  go_wp2
  go_loopw [0, 7, 8, 9] (fun vs vo vl vi wr => ∃ (rest last : BA) (d : List BA) (A : Option Addr) (c : Nat), d.length ≤ n ∧ last.size ≤ 1000 ∧ vs = .string rest ∧ vo = .slice A d.length c ∧ vl = .string last ∧ vi = .int .i64 d.length ∧ Hid (R = addW d (wordsP (n - d.length) last.data.toList rest.data.toList)) ∧ Hid (OwnS w.heap.size wr vo d) ∧ Hid (Below w.heap.size w wr))
    (fun _ _ _ vi _ => n - (intOf vi).toNat)
  case atStart => exact ⟨s, ⟨#[]⟩, [], _, _, Nat.zero_le _, Nat.zero_le _, rfl, rfl, rfl, rfl, E0, O0, B0⟩
  case round =>
    clear E0 O0 B0
    obtain ⟨rest, last, d, A, c, hd, hls, rfl, rfl, rfl, rfl, HE, HO, HB⟩ := hrel
    by_cases hlt : d.length < n
    · have hi' : (d.length : Int) < n := by omega
      obtain ⟨m, hm⟩ : ∃ m, n - d.length = m + 1 := ⟨n - d.length - 1, by omega⟩
      rw [hm] at HE
      have hll : last.data.toList.length = last.size := Array.length_toList
      have HR1 : Hid (∀ v : World, Calls Try.prog 42 #[.string rest, .int .i64 last.size] v fun e w' => e = .returned (rdOut last.size rest) ∧ Below v.heap.size v w') := Lib.hid fun v => read_ref_any rest last.size v
      cases h1 : rdN last.data.toList.length rest.data.toList with
      | none =>
        have HX := Lib.hid (HE.out.trans (addW_none (words_no1 h1)))
        rw [rdOut_none (by rw [← hll]; exact h1)] at HR1
        clear HE h1
        go_wp2_with fail
        refine (HR1.out _).mono ?_
        rintro e w1 ⟨rfl, hb⟩
        have B1 := Lib.hid (HB.out.trans (hb.mono HB.out.size))
        have O1 := Lib.hid (HO.out.step hb)
        clear hb
        go_wp2_with fail
        refine (HN0.out _).mono ?_
        rintro e w2 ⟨rfl, hb⟩
        have B2 := Lib.hid (B1.out.trans (hb.mono B1.out.size))
        have O2 := Lib.hid (O1.out.step hb)
        clear hb
        go_wp2
        go_ret3
        exact ⟨WordsQ.no HX.out O2.out, B2.out⟩
      | some x =>
        obtain ⟨p, r⟩ := x
        have hp := rdN_most h1
        have H1 := Lib.hid h1
        rw [rdOut_some (n := p) (r := r) (by rw [← hll]; exact h1)] at HR1
        have hrl : (⟨r.toArray⟩ : BA).data.toList = r := by simp
        have HR2 : Hid (∀ v : World, Calls Try.prog 42 #[.string ⟨r.toArray⟩, .int .i64 1000] v fun e w' => e = .returned (rdOut 1000 ⟨r.toArray⟩) ∧ Below v.heap.size v w') := Lib.hid fun v => read_ref_any _ 1000 v
        clear h1
        cases h2 : rdN 1000 r with
        | none =>
          have HX := Lib.hid (HE.out.trans (addW_none (words_no2 H1.out h2)))
          rw [rdOut_none (by rw [hrl]; exact h2)] at HR2
          generalize (⟨r.toArray⟩ : BA) = rb at *
          clear HE h2 H1 hrl
          go_wp2_with fail
          refine (HR1.out _).mono ?_
          rintro e w1 ⟨rfl, hb⟩
          have B1 := Lib.hid (HB.out.trans (hb.mono HB.out.size))
          have O1 := Lib.hid (HO.out.step hb)
          clear hb
          go_wp2_with fail
          refine (HR2.out _).mono ?_
          rintro e w2 ⟨rfl, hb⟩
          have B2 := Lib.hid (B1.out.trans (hb.mono B1.out.size))
          have O2 := Lib.hid (O1.out.step hb)
          clear hb
          go_wp2
          go_ret3
          exact ⟨WordsQ.no HX.out O2.out, B2.out⟩
        | some y =>
          obtain ⟨q, z⟩ := y
          have hq := rdN_most h2
          have H2 := Lib.hid h2
          rw [rdOut_some (n := q) (r := z) (by rw [hrl]; exact h2)] at HR2
          obtain ⟨zb, hzb⟩ : ∃ zb, (⟨z.toArray⟩ : BA) = zb := ⟨_, rfl⟩
          have hzl : zb.data.toList = z := by rw [← hzb]
          have hzs : zb.size = z.length := by rw [← hzb]; exact mk_size' z
          rw [hzb] at HR2
          clear hzb
          generalize (⟨r.toArray⟩ : BA) = rb at *
          clear h2 hrl
          by_cases h3 : z.length < q ∨ 1000 < p + q
          · have HX := Lib.hid (HE.out.trans (addW_none (words_no3 H1.out H2.out h3)))
            obtain ⟨hpi, hw, h3', _⟩ := words_ar hll hls hp hq hzs
            have h3' := h3' h3
            clear HE H1 H2 h3 hzl hzs hll hls hp
            rcases h3' with h3i | ⟨h3i, h4i⟩
            · go_wp2_with fail
              refine (HR1.out _).mono ?_
              rintro e w1 ⟨rfl, hb⟩
              have B1 := Lib.hid (HB.out.trans (hb.mono HB.out.size))
              have O1 := Lib.hid (HO.out.step hb)
              clear hb
              go_wp2_with fail
              refine (HR2.out _).mono ?_
              rintro e w2 ⟨rfl, hb⟩
              have B2 := Lib.hid (B1.out.trans (hb.mono B1.out.size))
              have O2 := Lib.hid (O1.out.step hb)
              clear hb
              go_wp2
              go_ret3
              exact ⟨WordsQ.no HX.out O2.out, B2.out⟩
            · go_wp2_with fail
              refine (HR1.out _).mono ?_
              rintro e w1 ⟨rfl, hb⟩
              have B1 := Lib.hid (HB.out.trans (hb.mono HB.out.size))
              have O1 := Lib.hid (HO.out.step hb)
              clear hb
              go_wp2_with fail
              refine (HR2.out _).mono ?_
              rintro e w2 ⟨rfl, hb⟩
              have B2 := Lib.hid (B1.out.trans (hb.mono B1.out.size))
              have O2 := Lib.hid (O1.out.step hb)
              clear hb
              go_wp2
              go_ret3
              exact ⟨WordsQ.no HX.out O2.out, B2.out⟩
          · have HX := Lib.hid (HE.out.trans (words_go d H1.out H2.out h3))
            obtain ⟨hpi, hw, _, har⟩ := words_ar hll hls hp hq hzs
            obtain ⟨h3i, h5i, h4i, hqz, hpl, hpq⟩ := har h3
            have hx1 : (last.extract 0 p ++ zb.extract 0 q : BA) = ⟨(last.data.toList.take p ++ z.take q).toArray⟩ := of_list (by rw [ByteArray.data_append, Array.toList_append, ext_pre _ _ hpl, ext_pre _ _ hqz, hzl])
            have hx2 : zb.extract q zb.size = ⟨(z.drop q).toArray⟩ := of_list (by rw [drop_ext, hzl])
            have hXL : (⟨(last.data.toList.take p ++ z.take q).toArray⟩ : BA).data.toList = last.data.toList.take p ++ z.take q := by simp
            have hXS : (⟨(last.data.toList.take p ++ z.take q).toArray⟩ : BA).size ≤ 1000 := by
              rw [mk_size']
              exact Nat.le_trans (take2_len _ _ _ _) hpq
            have hZL : (⟨(z.drop q).toArray⟩ : BA).data.toList = z.drop q := by simp
            rw [← hXL, ← hZL] at HX
            generalize (⟨(last.data.toList.take p ++ z.take q).toArray⟩ : BA) = X at *
            generalize (⟨(z.drop q).toArray⟩ : BA) = Z at *
            have hdn : d.length + 1 ≤ 2000 := Nat.le_trans hlt hn
            have HM := Lib.hid hm
            have HXZ : Hid (X.data.toList = last.data.toList.take p ++ z.take q) := Lib.hid hXL
            clear HE H1 H2 h3 hzl hzs hXL hZL hm hll hls hp hq hqz hpl hpq
            go_wp2_with fail
            refine (HR1.out _).mono ?_
            rintro e w1 ⟨rfl, hb⟩
            have B1 := Lib.hid (HB.out.trans (hb.mono HB.out.size))
            have O1 := Lib.hid (HO.out.step hb)
            clear hb
            go_wp2_with fail
            refine (HR2.out _).mono ?_
            rintro e w2 ⟨rfl, hb⟩
            have B2 := Lib.hid (B1.out.trans (hb.mono B1.out.size))
            have O2 := Lib.hid (O1.out.step hb)
            clear hb
            go_wp2
            go_quiet (fail)
            have B3 := Lib.hid (below_drewP B2.out nq)
            have O3 : Hid (OwnS w.heap.size (w2.drewN nq) (.slice A d.length c) d) := Lib.hid O2.out
            clear O1 B1 O2 B2
            generalize w2.drewN nq = w3 at *
            go_wp2_with (at_builtin; refine wpList_append_own _ rfl _ _ 22 rfl w.heap.size 9 i0 (.string ⟨#[]⟩) 1 16 Try.underlying22 hi hz0 hz1 hz2 rfl (by decide) _ d.length _ rfl (World.ownsRow.alloc O3.out _) ⟨w3.heap.size, 0, none⟩ 1 1 [.string X] rfl rfl (cell_one_new _ _ _) (by simp [Value.oneCell']) (by unfold maxLen; omega) (by omega) (by have := B3.out.size; simp; omega) ?_; intro v4 w4 hown4 hgrow4 _; obtain ⟨g, cap4, rfl⟩ := ownsRow_succ hown4; have B4 := Lib.hid ((B3.out.alloc B3.out.size _).grown hgrow4 (by have := B3.out.size; simp; omega) (fun k hk => (World.ownsRow.lt O3.out k hk).1)); have O4 := Lib.hid hown4; clear hown4 hgrow4)
            go_roundw
            case rel => exact ⟨Z, X, d ++ [X], some ⟨g, 0, none⟩, cap4, by rw [List.length_append]; exact hlt, hXS, rfl, by rw [List.length_append]; rfl, rfl, by rw [List.length_append]; go_num, Lib.hid (by rw [HX.out, List.length_append, show n - (d.length + [X].length) = m by have := HM.out; simp; omega]), Lib.hid (by unfold OwnS; rw [sc_snoc, List.length_append]; exact O4.out), B4⟩
            case measure => simp [intOf]; omega
    · have HX : Hid (R = some (d, rest.data.toList)) := Lib.hid (by
        have h := HE.out
        rw [show n - d.length = 0 by omega] at h
        rw [h, wordsP]
        simp [addW])
      have hni : ¬ ((d.length : Int) < n) := by omega
      clear HE
      go_wp2
      go_ret3
      have h := WordsQ.yes HX.out HO.out
      rw [mk_data] at h
      exact ⟨h, HB.out⟩
end Go.Proofs.Ytpinmmmbmhfmiaa.Dt
