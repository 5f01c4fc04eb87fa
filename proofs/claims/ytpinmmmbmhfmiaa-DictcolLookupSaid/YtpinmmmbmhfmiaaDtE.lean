/- Layer 10: the reference's dictionary. -/
import Derived.Shelf.Spec.SlicesInsert
import Derived.Laws.CopyRow
import Derived.Laws.OwnMore
import Derived.Deep.RegionLaw
import Derived.Test.YtpinmmmbmhfmiaaDtC
set_option linter.unusedVariables false
set_option linter.unusedSimpArgs false
namespace Go.Proofs.Ytpinmmmbmhfmiaa.Dt
open Go.RowKit Dc
/-- cs laid over L from o on. -/
def over (L : List Value) (o : Nat) (cs : List Value) : List Value := L.take o ++ (cs ++ L.drop (o + cs.length))
theorem run_copy_str (w : World) (ty : TypeId) (g o dLen dCap : Nat) (a : Addr) (sLen sCap k : Nat) (cur cs : List Value)
    (hg : w.heap[g]? = some (.cells cur.toArray 9 (0, 0))) (hk : Nat.min sLen dLen = k) (hn : k = cs.length)
    (hsrc : ∀ j v, cs[j]? = some v → w.cell? (a.add j) = some v) (hfit : o + cs.length ≤ cur.length) (h1 : ∀ v ∈ cs, v.oneCell' = true) :
    (Builtin.copy_ #[22, 22] ty #[.slice (some ⟨g, o, none⟩) dLen dCap, .slice (some a) sLen sCap]).run Try.prog w = .ok (goInt k) (w.setRow g (over cur o cs).toArray) := by
  obtain ⟨i0, hi, hz0, hz1, hz2⟩ := info_parts infoS
  have hl := run_loadCells_list (P := Try.prog) w a cs hsrc
  have hst := run_storeCells_at Try.prog g o 9 cs 0 cur.toArray w hg (by simpa using hfit) h1
  simp [Builtin.copy_, run_underlying Try.underlying22, Builtin.lenOf, Builtin.firstCells, sizeOf, typeInfo, hi, hz1, hk, hn, hl, hst, over]
theorem grown_setRow (w : World) (g : Nat) (cs : Array Value) : w.grownBy (w.setRow g cs) (some g) :=
  ⟨rfl, rfl, rfl, by simp [World.setRow], fun k _ hk => setRow_other w g k cs (fun e => hk (by rw [e]))⟩
theorem take_over (L cs : List Value) (o n : Nat) (h : o + cs.length = n) (ho : o ≤ L.length) : (over L o cs).take n = L.take o ++ cs := by
  unfold over
  rw [← List.append_assoc, List.take_left']
  rw [List.length_append, List.length_take]
  omega
/-- What is behind at goes one place on. -/
theorem copy_shift (w : World) (ty : TypeId) (B g n cap at_ : Nat) (d : List BA) (e : BA) (hO : w.ownsRow B 9 1 (.slice (some ⟨g, 0, none⟩) (n + 1) cap) (n + 1) (sc (d ++ [e]))) (hn : d.length = n) (hat : at_ ≤ n) (o1 c1 o2 c2 : Nat) (ho1 : at_ < n → o1 = at_ + 1) (ho2 : at_ < n → o2 = at_) (hb1 : o1 ≤ n + 1) :
    ∃ w' y, (Builtin.copy_ #[22, 22] ty #[.slice (some ⟨g, o1, none⟩) (n - at_) c1, .slice (some ⟨g, o2, none⟩) (n + 1 - at_) c2]).run Try.prog w = .ok (goInt ((n - at_ : Nat) : Int)) w' ∧ w'.ownsRow B 9 1 (.slice (some ⟨g, 0, none⟩) (n + 1) cap) (n + 1) (sc (d.take at_ ++ y :: d.drop at_)) ∧ w.grownBy w' (some g) := by
  have hcell := fun j (hj : j < (n + 1) * 1) => hO.cellAt j hj
  rcases hO.2 with ⟨h', _⟩ | ⟨g', cap', cur, h', hb, hg, hnc, hcm, hcs, htake⟩
  · simp at h'
  · simp only [Value.slice.injEq, Option.some.injEq, Addr.mk.injEq, and_true, true_and] at h'
    obtain ⟨rfl, rfl⟩ := h'
    have hcl : cur.toList.length = cap := by rw [Array.length_toList, hcs, Nat.mul_one]
    have hcsl : ((sc d).drop at_).length = n - at_ := by rw [List.length_drop, sc_len, hn]
    have hsrc : ∀ j v, ((sc d).drop at_)[j]? = some v → w.cell? ((⟨g, o2, none⟩ : Addr).add j) = some v := fun j v hj => by
      have hjl := (List.getElem?_eq_some_iff.1 hj).1
      rw [hcsl] at hjl
      rw [add_lit, ho2 (by omega), hcell (at_ + j) (by omega), ← sc_app, List.getElem?_append_left (by rw [sc_len]; omega), ← List.getElem?_drop]
      exact hj
    have hrun := run_copy_str w ty g o1 (n - at_) c1 ⟨g, o2, none⟩ (n + 1 - at_) c2 (n - at_) cur.toList ((sc d).drop at_) (by simpa using hg) (by simp only [Nat.min_def]; split <;> omega) hcsl.symm hsrc (by rw [hcsl, hcl]; rcases Nat.lt_or_ge at_ n with h | h; rw [ho1 h]; omega; omega) (fun v hv => sc_one d v (List.mem_of_mem_drop hv))
    rcases Nat.lt_or_ge at_ n with hlt | hge
    · refine ⟨_, (d ++ [e])[at_]?.getD ⟨#[]⟩, hrun, ⟨by rw [sc_len, List.length_append, List.length_cons, List.length_take, List.length_drop]; omega, .inr ⟨g, cap, _, rfl, hb, setRow_heap w g cur _ _ _ hg, hnc, hcm, ?_, ?_⟩⟩, grown_setRow _ _ _⟩
      · rw [List.size_toArray]
        unfold over
        simp only [List.length_append, List.length_take, List.length_drop]
        rw [sc_len, hcl, ho1 hlt]
        omega
      · have e1 : (over cur.toList o1 ((sc d).drop at_)).toArray.toList = over cur.toList o1 ((sc d).drop at_) := by simp
        rw [e1, take_over _ _ _ _ (by rw [hcsl, ho1 hlt]; omega) (by rw [hcl, ho1 hlt]; omega), ho1 hlt]
        have e2 : cur.toList.take (at_ + 1) = sc (d.take at_ ++ [(d ++ [e])[at_]?.getD ⟨#[]⟩]) := by
          have h := congrArg (List.take (at_ + 1)) htake
          rw [List.take_take, show min (at_ + 1) ((n + 1) * 1) = at_ + 1 by omega] at h
          rw [h]
          unfold sc
          rw [← List.map_take, List.take_append_of_le_length (by omega), List.getElem?_append_left (by omega), List.getElem?_eq_getElem (by omega), List.take_succ_eq_append_getElem (by omega)]
          rfl
        rw [e2]
        unfold sc
        rw [← List.map_drop, ← List.map_append, List.append_assoc]
        rfl
    · obtain rfl : at_ = n := by omega
      have e0 : (sc d).drop at_ = [] := List.drop_eq_nil_of_le (by rw [sc_len]; omega)
      have e1 : (over cur.toList o1 ((sc d).drop at_)).toArray = cur := by
        rw [e0]
        unfold over
        simp
      rw [e1] at hrun
      refine ⟨_, e, hrun, ?_, grown_setRow _ _ _⟩
      rw [setRow_self w g cur _ _ hg]
      have e3 : d.take at_ ++ e :: d.drop at_ = d ++ [e] := by rw [List.take_of_length_le (by omega), List.drop_eq_nil_of_le (by omega)]
      rw [e3]
      exact hO
theorem set_ins (d : List BA) (y s : BA) {k : Nat} (h : k ≤ d.length) : (sc (d.take k ++ y :: d.drop k)).set k (.string s) = sc (d.take k ++ s :: d.drop k) := by
  unfold sc
  rw [List.map_append, List.map_append, List.map_cons, List.map_cons]
  have hl : ((d.take k).map Value.string).length = k := by rw [List.length_map, List.length_take]; omega
  rw [List.set_append_right _ _ (by omega), hl, Nat.sub_self]
  rfl
set_option maxHeartbeats 4000000 in
set_option maxRecDepth 100000 in
theorem dictionary_any (l : List BA) (hl : l.length ≤ 100000) (sv : Value) (w : World) (hI : StrsAt w.heap.size w sv l) :
    Calls Try.prog 36 #[sv] w (StrsOut w (dict l)) := by
  obtain ⟨i0, hi, hz0, hz1, hz2⟩ := info_parts infoS
  obtain ⟨a, cap, rfl, hcx⟩ := hI
  have HX := Lib.hid hcx
  have O0 : Hid (OwnS w.heap.size (w.alloc (.cells #[] 9)) (.slice (some ⟨w.heap.size, 0, none⟩) 0 0) (dict (l.take 0))) := World.ownsRow_made w #[] 0 (Nat.le_refl _) (by unfold maxLen; omega) (by simp)
  have B0 : Hid (Below w.heap.size w (w.alloc (.cells #[] 9))) := (Below.refl _ _).alloc (Nat.le_refl _) _
  clear hcx
  go_enter Try.func36, Try.ntmps36
  go_wp2
  go_loopw [3, 4] (fun vo vi wr => ∃ (k : Nat) (d : List BA) (A : Option Addr) (c : Nat), k ≤ l.length ∧ d.length ≤ k ∧ vo = .slice A d.length c ∧ vi = .int .i64 k ∧ Hid (d = dict (l.take k)) ∧ Hid (OwnS w.heap.size wr vo d) ∧ Hid (Below w.heap.size w wr))
    (fun _ vi _ => l.length - (intOf vi).toNat)
  case atStart => exact ⟨0, [], _, _, Nat.zero_le _, Nat.zero_le _, rfl, rfl, Lib.hid rfl, O0, B0⟩
  case round =>
    clear O0 B0
    obtain ⟨k, d, A, c, hk, hdk, rfl, rfl, HD, HO, HB⟩ := hrel
    by_cases hlt : k < l.length
    · obtain ⟨b, o, rfl, hb, hc⟩ := HX.out (by omega)
      have hcell := (HB.out.cell (p := ⟨b, o + k, none⟩) (by simp; omega)).trans (hc k hlt)
      rw [at_get hlt] at hcell
      have hi' : (k : Int) < l.length := by omega
      obtain ⟨s, hs⟩ : ∃ s, l[k] = s := ⟨_, rfl⟩
      rw [hs] at hcell
      have HT : Hid (dict (l.take (k + 1)) = addD d s) := Lib.hid (by rw [List.take_succ_eq_append_getElem hlt, dict_snoc, hs, HD.out])
      have HIX := Lib.hid (index_any d (by omega) s (.slice A d.length c) wr HO.out.strs.at)
      clear hc hs
      by_cases hm : s ∈ d
      · obtain ⟨q, hq, _⟩ := idxI_mem hm
        rw [hq] at HIX
        have hq0 : (0 : Int) ≤ q := by omega
        have HD2 : Hid (d = dict (l.take (k + 1))) := Lib.hid (by rw [HT.out, addD_in hm])
        clear hq HT HD hm
        go_wp2_with fail
        refine HIX.out.mono ?_
        rintro e w' ⟨rfl, rfl⟩
        go_wp2
        go_roundw
        case rel => exact ⟨k + 1, d, A, c, by omega, by omega, rfl, by go_num, HD2, HO, HB⟩
        case measure => simp [intOf]; omega
      · rw [idxI_not hm] at HIX
        have HD2 : Hid (insD s d = dict (l.take (k + 1))) := Lib.hid (by rw [HT.out, addD_out hm])
        clear HT HD hm
        go_wp2_with fail
        refine HIX.out.mono ?_
        rintro e w' ⟨rfl, rfl⟩
        go_wp2
        go_loopw [5] (fun vj wx => ∃ j : Nat, j ≤ d.length ∧ vj = .int .i64 j ∧ Hid (∀ i, i < j → ∀ h : i < d.length, ltS d[i] s = true) ∧ Hid (OwnS w.heap.size wx (.slice A d.length c) d) ∧ Hid (Below w.heap.size w wx))
          (fun vj _ => d.length - (intOf vj).toNat)
        case atStart => exact ⟨0, Nat.zero_le _, rfl, Lib.hid (fun i h => by omega), HO, HB⟩
        case round =>
          obtain ⟨j, hj, rfl, HP, HOx, HBx⟩ := hrel
          have hcell0 : Hid (w.cell? ⟨b, o + k, none⟩ = some (.string s)) := Lib.hid ((HB.out.cell (p := ⟨b, o + k, none⟩) hb).symm.trans hcell)
          have hcx : wr.cell? ⟨b, o + k, none⟩ = some (.string s) := (HBx.out.cell (p := ⟨b, o + k, none⟩) hb).trans hcell0.out
          clear hcell
          by_cases hjl : j < d.length
          · obtain ⟨a2, c2, he2, hc2⟩ := HOx.out.strs.at
            obtain ⟨b3, o3, rfl, hb3, hcc⟩ := hc2 (by omega)
            obtain ⟨rfl, rfl⟩ : A = some ⟨b3, o3, none⟩ ∧ c = c2 := by injection he2 with h1 _ h2; exact ⟨h1, h2⟩
            have hcd := hcc j hjl
            rw [at_get hjl] at hcd
            have g1 : decide ((j : Int) < d.length) = true := decide_eq_true (by omega)
            have gi : (j : Int) < d.length := by omega
            have HPN := Lib.hid (fun h => posN_is s d j hj (fun i h1 h2 => HP.out i h1 h2) h)
            cases hq : ltS d[j] s with
            | true =>
              have HP2 : Hid (∀ i, i < j + 1 → ∀ h : i < d.length, ltS d[i] s = true) := Lib.hid fun i h1 h2 => by
                by_cases e : i = j
                · subst e; exact hq
                · exact HP.out i (by omega) h2
              have hq2 : Op.bytesLess d[j].toList s.toList = true := hq
              clear hcc HPN HP hq he2
              generalize d[j] = x at *
              go_wp2
              go_quiet (fail)
              go_wp2
              go_roundw
              case rel => exact ⟨j + 1, by omega, by go_num, HP2, Lib.hid HOx.out, Lib.hid (below_drewP HBx.out _)⟩
              case measure => simp [intOf]; omega
            | false =>
              have HPN2 := Lib.hid (HPN.out fun h => hq)
              have HPN := HPN2
              have hq2 : Op.bytesLess d[j].toList s.toList = false := hq
              clear hcc HPN2 HP hq he2
              generalize d[j] = x at *
              go_wp2
              go_quiet (fail)
              have HBq := Lib.hid (below_drewP HBx.out nq)
              have HOq : Hid (OwnS w.heap.size (wr.drewN nq) _ d) := Lib.hid HOx.out
              clear hcx HOx HBx
              have HBx := HBq
              have HOx := HOq
              clear HBq HOq
              generalize wr.drewN nq = wz at *
              go_wp2_with (at_builtin; refine wpList_append_own _ rfl _ _ 22 rfl w.heap.size 9 i0 (.string ⟨#[]⟩) 1 16 Try.underlying22 hi hz0 hz1 hz2 rfl (by decide) _ d.length _ rfl (World.ownsRow.alloc HOx.out _) ⟨wz.heap.size, 0, none⟩ 1 1 [.string ⟨#[]⟩] rfl rfl (cell_one_new _ _ _) (by simp [Value.oneCell']) (by unfold maxLen; omega) (by omega) (by have := HBx.out.size; simp; omega) ?_; intro v4 w4 hown4 hgrow4 _; obtain ⟨g, cap4, rfl⟩ := ownsRow_succ hown4; have B4 := Lib.hid ((HBx.out.alloc HBx.out.size _).grown hgrow4 (by have := HBx.out.size; simp; omega) (fun k hk => (World.ownsRow.lt HOx.out k hk).1)); have O4 := Lib.hid hown4; clear hown4 hgrow4)
              have O4d : Hid (w4.drew.ownsRow w.heap.size 9 1 (.slice (some ⟨g, 0, none⟩) (d.length + 1) cap4) (d.length + 1) (sc (d ++ [⟨#[]⟩]))) := Lib.hid (by rw [sc_snoc]; exact World.ownsRow.drew O4.out)
              have hcap4 : d.length + 1 ≤ cap4 := by
                rcases O4.out.2 with ⟨h', _⟩ | ⟨g', cap', cur, h', _, _, hnc, _⟩
                · simp at h'
                · simp only [Value.slice.injEq, Option.some.injEq, Addr.mk.injEq, and_true, true_and] at h'
                  rw [h'.2]; exact hnc
              have hgw : w.heap.size ≤ g := (O4.out.lt g rfl).1
              have hn1 : ¬ (cap4 = j + 1) := by omega
              have hn2 : ¬ (cap4 = j) := by omega
              have hj1 : (j : Int) ≤ (d.length : Int) := by omega
              have hj2 : (j : Int) ≤ (d.length : Int) + 1 := by omega
              obtain ⟨w5, y, hcp, ho5, hg5⟩ := copy_shift w4.drew 3 w.heap.size g d.length cap4 j d ⟨#[]⟩ O4d.out rfl (by omega) (j + 1) (cap4 - (j + 1)) j (cap4 - j) (fun _ => rfl) (fun _ => rfl) (by omega)
              have O5 := Lib.hid ho5
              have B5 := Lib.hid ((B4.out.drew).grown hg5 (by have := B4.out.size; simp; omega) (fun k hk => by cases hk; exact hgw))
              have hw1 : IntKind.i64.wrap ((j : Nat) + 1 : Int) = ((j : Nat) : Int) + 1 := IntWalk.i64_in _ (by omega)
              have hb1 : (0 : Int) ≤ ((j : Nat) : Int) + 1 := by omega
              have ht1 : (((j : Nat) : Int) + 1).toNat = j + 1 := by omega
              clear ho5 hg5
              go_region_law (refine Go.Proofs.step_copy_runI rfl _ _ 22 22 rfl (.slice (some ⟨g, j + 1, none⟩) (d.length - j) (cap4 - (j + 1))) (.slice (some ⟨g, j, none⟩) (d.length + 1 - j) (cap4 - j)) (by simp [Act.eval, Act.put]) (by simp [Act.eval, Act.put]) hcp ?_)
              all_goals
                have hsl : s = s := rfl
                have hfz := O5.out.frozenAt j
                have hcm : w5.cell? ⟨g, j, none⟩ = some (.string y) := by
                  rw [O5.out.cellAt j (by omega)]
                  unfold sc
                  rw [List.map_append, List.getElem?_append_right (by rw [List.length_map, List.length_take]; omega), List.length_map, List.length_take, show j - min j d.length = 0 by omega]
                  rfl
                have hst := O5.out.stored j (.string s)
                rw [set_ins d y s (by omega)] at hst
                have HST := Lib.hid hst
                have hc5 : w5.cell? ⟨b, o + k, none⟩ = some (.string s) := (B5.out.cell (p := ⟨b, o + k, none⟩) hb).trans hcell0.out
                clear hst
                go_wp2
                go_roundw
                case rel => exact ⟨k + 1, insD s d, some ⟨g, 0, none⟩, cap4, by omega, by rw [insD_len]; omega, by rw [insD_len], by go_num, HD2, Lib.hid (by unfold OwnS; rw [insD_len, show insD s d = d.take j ++ s :: d.drop j by unfold insD; rw [HPN.out]]; exact HST.out.1), Lib.hid (B5.out.setCell (p := ⟨g, j, none⟩) hgw _)⟩
                case measure => simp [intOf]; omega
          · have hjn : j = d.length := by omega
            subst hjn
            have g1 : decide ((d.length : Int) < d.length) = false := decide_eq_false (by omega)
            have HPN := Lib.hid (posN_is s d d.length hj (fun i h1 h2 => HP.out i h1 h2) (fun h => absurd h (by omega)))
            clear HP
            go_wp2
            go_quiet (fail)
            have HBq := Lib.hid (below_drewP HBx.out nq)
            have HOq : Hid (OwnS w.heap.size (wr.drewN nq) _ d) := Lib.hid HOx.out
            clear hcx HOx HBx
            have HBx := HBq
            have HOx := HOq
            clear HBq HOq
            generalize wr.drewN nq = wz at *
            go_wp2_with (at_builtin; refine wpList_append_own _ rfl _ _ 22 rfl w.heap.size 9 i0 (.string ⟨#[]⟩) 1 16 Try.underlying22 hi hz0 hz1 hz2 rfl (by decide) _ d.length _ rfl (World.ownsRow.alloc HOx.out _) ⟨wz.heap.size, 0, none⟩ 1 1 [.string ⟨#[]⟩] rfl rfl (cell_one_new _ _ _) (by simp [Value.oneCell']) (by unfold maxLen; omega) (by omega) (by have := HBx.out.size; simp; omega) ?_; intro v4 w4 hown4 hgrow4 _; obtain ⟨g, cap4, rfl⟩ := ownsRow_succ hown4; have B4 := Lib.hid ((HBx.out.alloc HBx.out.size _).grown hgrow4 (by have := HBx.out.size; simp; omega) (fun k hk => (World.ownsRow.lt HOx.out k hk).1)); have O4 := Lib.hid hown4; clear hown4 hgrow4)
            have O4d : Hid (w4.drew.ownsRow w.heap.size 9 1 (.slice (some ⟨g, 0, none⟩) (d.length + 1) cap4) (d.length + 1) (sc (d ++ [⟨#[]⟩]))) := Lib.hid (by rw [sc_snoc]; exact World.ownsRow.drew O4.out)
            have hcap4 : d.length + 1 ≤ cap4 := by
              rcases O4.out.2 with ⟨h', _⟩ | ⟨g', cap', cur, h', _, _, hnc, _⟩
              · simp at h'
              · simp only [Value.slice.injEq, Option.some.injEq, Addr.mk.injEq, and_true, true_and] at h'
                rw [h'.2]; exact hnc
            have hgw : w.heap.size ≤ g := (O4.out.lt g rfl).1
            have hj1 : (d.length : Int) ≤ (d.length : Int) + 1 := by omega
            by_cases hce : cap4 = d.length + 1
            · subst hce
              have hn2 : ¬ (d.length + 1 = d.length) := by omega
              obtain ⟨w5, y, hcp, ho5, hg5⟩ := copy_shift w4.drew 3 w.heap.size g d.length (d.length + 1) d.length d ⟨#[]⟩ O4d.out rfl (by omega) 0 0 d.length 1 (fun h => absurd h (by omega)) (fun h => absurd h (by omega)) (by omega)
              rw [Nat.sub_self, Nat.add_sub_cancel_left] at hcp
              have O5 := Lib.hid ho5
              have B5 := Lib.hid ((B4.out.drew).grown hg5 (by have := B4.out.size; simp; omega) (fun k hk => by cases hk; exact hgw))
              have hw1 : IntKind.i64.wrap ((d.length : Nat) + 1 : Int) = ((d.length : Nat) : Int) + 1 := IntWalk.i64_in _ (by omega)
              have hb1 : (0 : Int) ≤ ((d.length : Nat) : Int) + 1 := by omega
              have ht1 : (((d.length : Nat) : Int) + 1).toNat = d.length + 1 := by omega
              clear ho5 hg5
              go_region_law (refine Go.Proofs.step_copy_runI rfl _ _ 22 22 rfl (.slice (some ⟨g, 0, none⟩) 0 0) (.slice (some ⟨g, d.length, none⟩) 1 1) (by simp [Act.eval, Act.put]) (by simp [Act.eval, Act.put]) hcp ?_)
              all_goals
                have hsl : s = s := rfl
                have hfz := O5.out.frozenAt d.length
                have hcm : w5.cell? ⟨g, d.length, none⟩ = some (.string y) := by
                  rw [O5.out.cellAt d.length (by omega)]
                  unfold sc
                  rw [List.map_append, List.getElem?_append_right (by rw [List.length_map, List.length_take]; omega), List.length_map, List.length_take, show d.length - min d.length d.length = 0 by omega]
                  rfl
                have hst := O5.out.stored d.length (.string s)
                rw [set_ins d y s (by omega)] at hst
                have HST := Lib.hid hst
                have hc5 : w5.cell? ⟨b, o + k, none⟩ = some (.string s) := (B5.out.cell (p := ⟨b, o + k, none⟩) hb).trans hcell0.out
                clear hst
                go_wp2
                go_roundw
                case rel => exact ⟨k + 1, insD s d, some ⟨g, 0, none⟩, d.length + 1, by omega, by rw [insD_len]; omega, by rw [insD_len], by go_num, HD2, Lib.hid (by unfold OwnS; rw [insD_len, show insD s d = d.take d.length ++ s :: d.drop d.length by unfold insD; rw [HPN.out]]; exact HST.out.1), Lib.hid (B5.out.setCell (p := ⟨g, d.length, none⟩) hgw _)⟩
                case measure => simp [intOf]; omega
            · have hn1 : ¬ (cap4 = d.length + 1) := hce
              have hn2 : ¬ (cap4 = d.length) := by omega
              obtain ⟨w5, y, hcp, ho5, hg5⟩ := copy_shift w4.drew 3 w.heap.size g d.length cap4 d.length d ⟨#[]⟩ O4d.out rfl (by omega) (d.length + 1) (cap4 - (d.length + 1)) d.length (cap4 - d.length) (fun h => absurd h (by omega)) (fun h => absurd h (by omega)) (by omega)
              rw [Nat.sub_self, Nat.add_sub_cancel_left] at hcp
              have O5 := Lib.hid ho5
              have B5 := Lib.hid ((B4.out.drew).grown hg5 (by have := B4.out.size; simp; omega) (fun k hk => by cases hk; exact hgw))
              have hw1 : IntKind.i64.wrap ((d.length : Nat) + 1 : Int) = ((d.length : Nat) : Int) + 1 := IntWalk.i64_in _ (by omega)
              have hb1 : (0 : Int) ≤ ((d.length : Nat) : Int) + 1 := by omega
              have ht1 : (((d.length : Nat) : Int) + 1).toNat = d.length + 1 := by omega
              clear ho5 hg5
              go_region_law (refine Go.Proofs.step_copy_runI rfl _ _ 22 22 rfl (.slice (some ⟨g, d.length + 1, none⟩) 0 (cap4 - (d.length + 1))) (.slice (some ⟨g, d.length, none⟩) 1 (cap4 - d.length)) (by simp [Act.eval, Act.put]) (by simp [Act.eval, Act.put]) hcp ?_)
              all_goals
                have hsl : s = s := rfl
                have hfz := O5.out.frozenAt d.length
                have hcm : w5.cell? ⟨g, d.length, none⟩ = some (.string y) := by
                  rw [O5.out.cellAt d.length (by omega)]
                  unfold sc
                  rw [List.map_append, List.getElem?_append_right (by rw [List.length_map, List.length_take]; omega), List.length_map, List.length_take, show d.length - min d.length d.length = 0 by omega]
                  rfl
                have hst := O5.out.stored d.length (.string s)
                rw [set_ins d y s (by omega)] at hst
                have HST := Lib.hid hst
                have hc5 : w5.cell? ⟨b, o + k, none⟩ = some (.string s) := (B5.out.cell (p := ⟨b, o + k, none⟩) hb).trans hcell0.out
                clear hst
                go_wp2
                go_roundw
                case rel => exact ⟨k + 1, insD s d, some ⟨g, 0, none⟩, cap4, by omega, by rw [insD_len]; omega, by rw [insD_len], by go_num, HD2, Lib.hid (by unfold OwnS; rw [insD_len, show insD s d = d.take d.length ++ s :: d.drop d.length by unfold insD; rw [HPN.out]]; exact HST.out.1), Lib.hid (B5.out.setCell (p := ⟨g, d.length, none⟩) hgw _)⟩
                case measure => simp [intOf]; omega
    · have HF : Hid (d = dict l) := Lib.hid (by have h := HD.out; rwa [List.take_of_length_le (by omega)] at h)
      go_wp2
      go_ret
      refine ⟨_, rfl, ?_, HB.out⟩
      rw [← HF.out]
      exact HO.out
end Go.Proofs.Ytpinmmmbmhfmiaa.Dt
