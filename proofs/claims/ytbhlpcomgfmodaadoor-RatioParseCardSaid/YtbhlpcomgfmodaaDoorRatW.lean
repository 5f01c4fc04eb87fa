/- The contracts of the reference of layer 3: Parse. -/
import Derived.Test.YtbhlpcomgfmodaaDoorRatV
import Derived.Deep.CutRange
set_option linter.unusedVariables false
set_option linter.unusedSimpArgs false
namespace Go.Proofs.YtbhlpcomgfmodaaDoor.Rat
open Go.RowKit

/-- The blocks that Parse lays: its result's and its local fraction's. -/
def Lp (w : World) (x y : Int) (W : World) : Prop :=
  W.heap[w.heap.size]? = some (.cells #[.int .i64 0, .int .i64 0] 23 (0, 0)) ∧ W.heap[w.heap.size + 1]? = some (.cells #[.int .i64 x, .int .i64 y] 23 (0, 0)) ∧ Below w.heap.size w W
theorem Lp.drew {w W : World} {x y : Int} (h : Lp w x y W) : Lp w x y W.drew := ⟨h.1, h.2.1, h.2.2.drew⟩
theorem Lp.step {w W W2 : World} {x y : Int} (h : Lp w x y W) (hb : Below W.heap.size W W2) : Lp w x y W2 :=
  ⟨(hb.block _ (Array.getElem?_eq_some_iff.1 h.1).1).trans h.1, (hb.block _ (Array.getElem?_eq_some_iff.1 h.2.1).1).trans h.2.1, h.2.2.trans (hb.mono h.2.2.size)⟩
theorem Lp.set1 {w W : World} {x y : Int} (z : Int) (h : Lp w x y W) : Lp w x z (W.setCell ⟨w.heap.size + 1, 1, none⟩ (.int .i64 z)) :=
  ⟨by rw [heap_setCell_other _ _ _ _ (by simp)]; exact h.1, heap_setCell_same _ _ _ _ _ _ h.2.1, h.2.2.setCell (by simp) _⟩
theorem Lp.set0 {w W : World} {x y : Int} (z : Int) (h : Lp w x y W) : Lp w z y (W.setCell ⟨w.heap.size + 1, 0, none⟩ (.int .i64 z)) :=
  ⟨by rw [heap_setCell_other _ _ _ _ (by simp)]; exact h.1, heap_setCell_same _ _ _ _ _ _ h.2.1, h.2.2.setCell (by simp) _⟩
/-- The two numbers, when the sign is off. -/
def parseG (g : Int) (a b : List UInt8) : Int × Int × Bool :=
  if b = [] then (g * (numOut a).1, 1, (numOut a).2) else (g * (numOut a).1, (numOut b).1, (numOut a).2 && (numOut b).2)

set_option maxHeartbeats 4000000 in
theorem refParse_any (s : ByteArray) (hs : s.size ≤ 4294967000) (w : World) :
    Calls Tryd.prog 31 #[.string s] w fun e w' => e = .returned (parseOut s) ∧ Below w.heap.size w w' := by
  go_enter Tryd.func31, Tryd.ntmps31
  go_wp2
  go_loopw [5, 6, 7] (fun va vb vi wr => ∃ (k : Nat) (a b : ByteArray), va = .string a ∧ vb = .string b ∧ vi = .int .i64 ((k : Int) - 1) ∧ k ≤ s.size ∧ a.size ≤ s.size ∧ b.size ≤ s.size ∧ Hid (spl s.data.toList k = (a.data.toList, b.data.toList)) ∧ Hid (Lp w 0 1 wr)) (fun _ _ vi _ => (intOf vi + 1).toNat)
  case atStart =>
    refine ⟨s.size, s, ⟨#[]⟩, rfl, rfl, by go_num, by omega, by omega, Nat.zero_le _, ?_, ?_⟩
    · show spl _ _ = _
      have e : s.data.toList.length = s.size := Array.length_toList
      rw [← e]
      exact spl_end _
    · exact ⟨heap_alloc2_old w _ _, heap_alloc2_new w _ _, ((Below.refl _ _).alloc (Nat.le_refl _) _).alloc (by simp) _⟩
  case round =>
    obtain ⟨k, a, b, rfl, rfl, rfl, hk, hal, hbl, HAB, HL⟩ := hrel
    by_cases h0 : k = 0
    · subst h0
      have HO : Hid (parseOut s = outP s (parseAB a.data.toList b.data.toList)) := by
        show _ = _
        unfold parseOut parseL
        rw [HAB.out]
      clear HAB
      go_upto_region 9 with fail
      go_cut [40] from 33 to 39 (fun vc wx => ∃ c : Bool, vc = .bool c ∧ Hid ((a.data.toList.head? = some 45) = (c = true)) ∧ Hid (c = true → 0 < a.size) ∧ wx = wr)
      case first =>
        have ea : a.data.toList.length = a.size := Array.length_toList
        by_cases ha0 : 0 < a.size
        · have g0 : (0 : Int) < a.size := by omega
          by_cases h45 : a[0] = 45
          · have HH : Hid ((a.data.toList.head? = some 45) = (true = true)) := by
              show _ = _
              rw [List.head?_eq_getElem?, List.getElem?_eq_getElem (by omega)]
              exact propext ⟨fun _ => rfl, fun _ => congrArg some h45⟩
            have g1 : ((a[0].toNat : Int) == 45) = true := by rw [h45]; rfl
            clear h45
            go_wp2
            go_meet
            case rel => exact ⟨true, rfl, HH.out.trans (eq_true rfl).symm, fun _ => ha0, rfl⟩
          · have HH : Hid ((a.data.toList.head? = some 45) = (false = true)) := by
              show _ = _
              rw [List.head?_eq_getElem?, List.getElem?_eq_getElem (by omega)]
              exact (eq_false fun h => h45 (Option.some.inj h)).trans (eq_false (by decide)).symm
            have g1 : ((a[0].toNat : Int) == 45) = false := beq_eq_false_iff_ne.2 (fun e => h45 (UInt8.toNat_inj.1 (Int.ofNat.inj e)))
            clear h45
            go_wp2
            go_meet
            case rel => exact ⟨false, rfl, HH, fun h => absurd h (by decide), rfl⟩
        · have g0 : ¬ (0 : Int) < a.size := by omega
          have HH : Hid ((a.data.toList.head? = some 45) = (false = true)) := by
            show _ = _
            rw [List.eq_nil_of_length_eq_zero (show a.data.toList.length = 0 by omega)]
            simp
          go_wp2
          go_meet
          case rel => exact ⟨false, rfl, HH, fun h => absurd h (by decide), rfl⟩
      case rest =>
      obtain ⟨q, rfl, HQ, HQ2, rfl⟩ := hcut
      go_upto_if 40 with fail
      go_cut [5, 8] from 41 to 42 (fun va vg wx => ∃ (g : Int) (c : ByteArray), va = .string c ∧ vg = .int .i64 g ∧ (g = 1 ∨ g = -1) ∧ c.size ≤ s.size ∧ Hid (parseAB a.data.toList b.data.toList = parseG g c.data.toList b.data.toList) ∧ Hid (Lp w 0 1 wx))
      case first =>
        cases q
        · have HP := Lib.hid (parse_plain (a := a.data.toList) (b := b.data.toList) (by rw [HQ.out]; decide))
          clear HQ HQ2
          go_wp2
          go_meet
          case rel => exact ⟨1, a, rfl, rfl, Or.inl rfl, hal, HP.out, HL.out⟩
        · have HP := Lib.hid (parse_minus (a := a.data.toList) (b := b.data.toList) (by rw [HQ.out]))
          have ha0 := HQ2.out rfl
          have g2 : (1 : Int) ≤ a.size := by omega
          clear HQ HQ2
          go_wp2
          go_region
          all_goals go_wp2
          all_goals go_meet
          case rel =>
            refine ⟨-1, a.extract 1 a.size, rfl, rfl, Or.inr rfl, by simp; omega, ?_, HL.out.drew⟩
            show _ = _
            rw [HP.out, show (a.extract 1 a.size).data.toList = a.data.toList.tail from by rw [Lib.extract_to_end, List.drop_one]]
            rfl
      case rest =>
        obtain ⟨g, c, rfl, rfl, hg, hcl, HP, HL1⟩ := hcut
        have HO2 := Lib.hid (HO.out.trans (by rw [HP.out]))
        clear HO HP HL
        have N1 := Lib.hid fun w => number_any c (by omega) w
        have hnb := numOut_le c.data.toList
        have hdb := numOut_le b.data.toList
        have N2 := Lib.hid fun w => number_any b (by omega) w
        unfold parseG at HO2
        generalize numOut c.data.toList = r1 at *
        generalize numOut b.data.toList = r2 at *
        obtain ⟨n, o⟩ := r1
        obtain ⟨d, o2⟩ := r2
        dsimp only at hnb hdb
        go_wp2_with fail
        refine (N1.out _).mono ?_
        rintro e w6 ⟨rfl, rfl⟩
        clear N1
        have HO3 : Hid (parseOut s = outP s (g * n, if b.data.toList = [] then 1 else d, if b.data.toList = [] then o else o && o2)) := by
          show _ = _
          rw [HO2.out]
          by_cases hbe : b.data.toList = []
          · rw [if_pos hbe, if_pos hbe, if_pos hbe]
          · rw [if_neg hbe, if_neg hbe, if_neg hbe]
        clear HO2
        go_upto_if 49 with fail
        generalize hbi : b.toList.isEmpty = bz
        go_cut [10, 11, 12] from 50 to 60 (fun vo v11 v12 wx => ∃ (D : Int) (q : Bool), vo = .bool q ∧ 0 ≤ D ∧ D ≤ 1152921504606846979 ∧ Hid (parseOut s = outP s (g * n, D, q)) ∧ Hid (Lp w 0 D wx))
        case first =>
          by_cases hbe : b.data.toList = []
          · obtain rfl : bz = true := by
              rw [← hbi, ByteArray.toList_eq, hbe]; rfl
            clear hbi
            rw [if_pos hbe, if_pos hbe] at HO3
            clear hbe N2
            go_wp2
            go_meet
            case rel => exact ⟨1, o, rfl, by omega, by omega, HO3, HL1⟩
          · obtain rfl : bz = false := by
              rw [← hbi, ByteArray.toList_eq]
              cases hl : b.data.toList with
              | nil => exact absurd hl hbe
              | cons _ _ => rfl
            clear hbi
            rw [if_neg hbe, if_neg hbe] at HO3
            clear hbe
            obtain ⟨z0, z1⟩ := cells2 HL1.out.2.1
            obtain ⟨fz0, fz1⟩ := frozen2 HL1.out.2.1
            go_wp2_with fail
            refine (N2.out _).mono ?_
            rintro e w7 ⟨rfl, rfl⟩
            cases o
            all_goals go_wp2
            all_goals go_meet
            all_goals exact ⟨d, _, rfl, by omega, by omega, HO3, HL1.out.set1 d⟩
        case rest =>
          obtain ⟨D, q, rfl, hD1, hD2, HO4, HL2⟩ := hcut
          clear HO3 HL1
          have hw : IntKind.i64.wrap (g * n) = g * n := IntWalk.i64_in _ (by rcases hg with rfl | rfl <;> omega)
          have FM := Lib.hid fun w => format_any (g * n) D (by unfold inI; rcases hg with rfl | rfl <;> omega) (by unfold inI; omega) w
          obtain ⟨z0, z1⟩ := cells2 HL2.out.2.1
          obtain ⟨fz0, fz1⟩ := frozen2 HL2.out.2.1
          go_upto_region 16 with fail
          have HL3 := Lib.hid (HL2.out.set0 (g * n))
          clear HL2 z0 z1 fz0 fz1 hw
          generalize wc.setCell ⟨w.heap.size + 1, 0, none⟩ (.int .i64 (g * n)) = w8 at *
          generalize g * n = N at *
          cases q
          · rw [outP_no] at HO4
            obtain ⟨z0, z1⟩ := cells2 HL3.out.1
            obtain ⟨fz0, fz1⟩ := frozen2 HL3.out.1
            go_wp2
            refine bodyPost_ret (res_cell_tmp rfl _ _ w.heap.size 23 _ (0, 0) _ rfl (set2 _ _ HL3.out.1) Tryd.underlying23 rfl info23) rfl ?_
            exact ⟨by rw [HO4.out]; rfl, (HL3.out.2.2.setCell (Nat.le_refl _) _).setCell (Nat.le_refl _) _⟩
          · obtain ⟨z0, z1⟩ := cells2 HL3.out.2.1
            go_wp2_with fail
            refine (FM.out _).mono ?_
            rintro e w9 ⟨rfl, hb9⟩
            have HL4 := Lib.hid (HL3.out.step hb9)
            clear hb9 HL3 z0 z1 FM
            obtain ⟨z0, z1⟩ := cells2 HL4.out.1
            obtain ⟨fz0, fz1⟩ := frozen2 HL4.out.1
            obtain ⟨x0, x1⟩ := cells2 HL4.out.2.1
            by_cases hq : fmtS N D = s
            · rw [outP_eq hq] at HO4
              have hqq : ((fmtS N D).toList == s.toList) = true := by rw [hq]; exact beq_self_eq_true _
              clear hq
              generalize fmtS N D = F at *
              go_wp2
              refine bodyPost_ret (res_cell_tmp rfl _ _ w.heap.size 23 _ (0, 0) _ rfl (set2 _ _ HL4.out.1) Tryd.underlying23 rfl info23) rfl ?_
              exact ⟨by rw [HO4.out]; rfl, (HL4.out.2.2.setCell (Nat.le_refl _) _).setCell (Nat.le_refl _) _⟩
            · rw [outP_ne hq] at HO4
              have hqq : ((fmtS N D).toList == s.toList) = false := beq_eq_false_iff_ne.2 (fun h => hq (ba_inj h))
              clear hq
              generalize fmtS N D = F at *
              go_wp2
              refine bodyPost_ret (res_cell_tmp rfl _ _ w.heap.size 23 _ (0, 0) _ rfl (set2 _ _ HL4.out.1) Tryd.underlying23 rfl info23) rfl ?_
              exact ⟨by rw [HO4.out]; rfl, (HL4.out.2.2.setCell (Nat.le_refl _) _).setCell (Nat.le_refl _) _⟩
    · obtain ⟨i, rfl⟩ : ∃ i, k = i + 1 := ⟨k - 1, by omega⟩
      have hi : i < s.size := by omega
      have ki : i < s.data.toList.length := by have e : s.data.toList.length = s.size := Array.length_toList; omega
      by_cases h47 : s[i] = 47
      · have HS : Hid (spl s.data.toList i = (s.data.toList.take i, s.data.toList.drop (i + 1))) := spl_hit ki h47
        have g1 : ((s[i].toNat : Int) == 47) = true := by rw [h47]; rfl
        clear h47
        go_wp2
        go_region
        all_goals go_wp2
        go_round
        case rel => exact ⟨i, s.extract 0 i, s.extract (i + 1) s.size, by go_num, by go_num, by go_num, by omega, by simp; omega, by simp, by show _ = _; rw [HS.out, Lib.extract_to_end, ByteArray.data_extract, Array.toList_extract]; simp, HL.out.drew⟩
        case measure => simp [intOf]
      · have HS : Hid (spl s.data.toList i = spl s.data.toList (i + 1)) := spl_miss ki h47
        have g1 : ((s[i].toNat : Int) == 47) = false := beq_eq_false_iff_ne.2 (fun e => h47 (UInt8.toNat_inj.1 (Int.ofNat.inj e)))
        clear h47
        go_wp2
        go_round
        case rel => exact ⟨i, a, b, rfl, rfl, by go_num, by omega, hal, hbl, HS.out.trans HAB.out, HL⟩
        case measure => simp [intOf]
end Go.Proofs.YtbhlpcomgfmodaaDoor.Rat
