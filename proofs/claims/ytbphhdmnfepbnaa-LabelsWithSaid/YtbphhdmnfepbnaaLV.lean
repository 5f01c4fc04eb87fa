/- Layer 5: value of the reference. -/
import Derived.Test.YtbphhdmnfepbnaaLL
import Derived.Test.YtbphhdmnfepbnaaPM
set_option linter.unusedVariables false
set_option linter.unusedSimpArgs false
namespace Go.Proofs.Ytbphhdmnfepbnaa.Lab
open Go.RowKit
/-- What value of the reference hands back. -/
structure RVal (u : Option (List UInt8 × List UInt8)) (s : ByteArray) (i : Nat) (t : ByteArray) (j : Nat) (b : Bool) : Prop where
  yes : b = true → u = some (t.data.toList, s.data.toList.drop j)
  no : b = false → u = none
  lt : b = true → i < j ∧ j ≤ s.size
def RValPost (u : Option (List UInt8 × List UInt8)) (s : ByteArray) (i : Nat) (w : World) (e : Ending) (w' : World) : Prop :=
  ∃ t j b, e = .returned (.tuple #[.string t, .int .i64 ((j : Nat) : Int), .bool b]) ∧ Below w.heap.size w w' ∧ RVal u s i t j b
theorem ret3 {fn : Func} {R : Ending → World → Prop} {a : Act} {w : World} (h : fn.results = #[.tmp 4, .tmp 5, .tmp 6]) (hd : a.defers = [])
    (hR : R (.returned (.tuple #[a.tmps.getD 4 undef, a.tmps.getD 5 undef, a.tmps.getD 6 undef])) w) : bodyPost Try.prog fn R .ret a w := by
  refine bodyPost_ret (v := .tuple #[a.tmps.getD 4 undef, a.tmps.getD 5 undef, a.tmps.getD 6 undef]) ?_ hd hR
  simp [results, h]
structure RV (u : Option (List UInt8 × List UInt8)) (s : ByteArray) (w : World) (i j : Nat) (o : List UInt8) (vo : Value) (V : World) : Prop where
  own : OwnB V w.heap.size vo o
  bel : Below w.heap.size w V
  eq : u = pre o (unq (s.data.toList.drop j))
  len : o.length + i ≤ j
set_option maxRecDepth 100000 in
set_option maxHeartbeats 4000000 in
theorem refValue_any (s : ByteArray) (hs : s.size ≤ 1000000) (i : Nat) (hi0 : i ≤ s.size) (w : World) :
    Calls Try.prog 67 #[.string s, .int .i64 (i : Int)] w (RValPost (unq (s.data.toList.drop i)) s i w) := by
  obtain ⟨i0, hi, hz0, hz1, hz2⟩ := info_parts info5
  obtain ⟨u, hu⟩ : ∃ u, u = unq (s.data.toList.drop i) := ⟨_, rfl⟩
  rw [← hu]
  have V0 : Hid (RV u s w i i [] (.slice (some ⟨w.heap.size, 0, none⟩) 0 0) (w.alloc (.cells #[] 5))) :=
    ⟨World.ownsRow_made w #[] 0 (Nat.le_refl _) (by unfold maxLen; omega) (by simp), (Below.refl _ _).alloc (Nat.le_refl _) _, by rw [pre_nil]; exact hu, by simp⟩
  clear hu
  go_enter Try.func67, Try.ntmps67
  go_wp2
  go_loopw [1, 7] (fun vi vo wr => ∃ (j : Nat) (o : List UInt8), j ≤ s.size ∧ vi = .int .i64 (j : Int) ∧ Hid (RV u s w i j o vo wr)) (fun vi _ _ => s.size - (intOf vi).toNat)
  case atStart => exact ⟨i, [], hi0, rfl, V0⟩
  case round =>
    clear V0
    obtain ⟨j, o, hj, rfl, H⟩ := hrel
    have hol : o.length ≤ 1000000 := by have := H.out.len; omega
    have HSZ := Lib.hid H.out.bel.size
    by_cases hlt : j < s.size
    · have D0 := Lib.hid (drop_cons s hlt)
      have hc256 := s[j].toNat_lt
      by_cases h34 : s[j].toNat = 34
      · have t1 : ((s[j].toNat : Int) == 34) = true := by simp [h34]
        have OK : Hid (RVal u s i (mkS o) (j + 1) true) := by
          refine ⟨fun _ => ?_, fun h => (by cases h), fun _ => ?_⟩
          · rw [H.out.eq, D0.out, unq_end _ h34, pre_some, List.append_nil]
            unfold mkS
            rw [ba_mk]
          · have := H.out.len; omega
        have hown := H.out.own
        obtain ⟨A, n, cap, rfl, hcv⟩ := hown.conv
        clear h34 hown
        go_wp2
        refine ret3 rfl rfl ?_
        exact ⟨mkS o, j + 1, true, by simp [mkS], H.out.bel, OK.out⟩
      · have t1 : ((s[j].toNat : Int) == 34) = false := by simp; omega
        by_cases h10 : s[j].toNat = 10
        · have t2 : ((s[j].toNat : Int) == 10) = true := by simp [h10]
          have OK : Hid (RVal u s i ⟨#[]⟩ 0 false) := by
            refine ⟨fun h => (by cases h), fun _ => ?_, fun h => (by cases h)⟩
            rw [H.out.eq, D0.out, unq_nl _ h10]; rfl
          clear h34 h10
          go_wp2
          refine ret3 rfl rfl ?_
          exact ⟨⟨#[]⟩, 0, false, rfl, H.out.bel, OK.out⟩
        · have t2 : ((s[j].toNat : Int) == 10) = false := by simp; omega
          by_cases h92 : s[j].toNat = 92
          · have t3 : ((s[j].toNat : Int) == 92) = true := by simp [h92]
            by_cases hlt2 : j + 1 < s.size
            · have D1 := Lib.hid (drop_cons s hlt2)
              have hd256 := s[j + 1].toNat_lt
              by_cases h110 : s[j + 1].toNat = 110
              · have t4 : ((s[j + 1].toNat : Int) != 92) = true := by simp; omega
                have t5 : ((s[j + 1].toNat : Int) != 34) = true := by simp; omega
                have t6 : ((s[j + 1].toNat : Int) != 110) = false := by simp; omega
                have t7 : ((s[j + 1].toNat : Int) == 110) = true := by simp; omega
                have E1 : Hid (u = pre (o ++ [10]) (unq (s.data.toList.drop (j + 1 + 1)))) := by
                  rw [H.out.eq, D0.out, D1.out, unq_n _ h92 h110, pre_pre]
                  rfl
                clear h34 h10 h92 h110
                go_wp2_with (at_builtin; refine wpList_append_own _ rfl (.tmp 57) (.tmp 58) 47 rfl w.heap.size 5 i0 _ 1 1 Try.underlying47 hi hz0 hz1 hz2 rfl (by decide) u7 _ _ rfl (H.out.own.below ((Below.refl _ _).alloc (Nat.le_refl _) _)) ⟨wr.heap.size, 0, none⟩ 1 1 [.int .u8 10] rfl rfl (cell_one_new _ _ _) (by simp [Value.oneCell']) (by simp only [maxLen]; omega) (by omega) (by have := HSZ.out; simp; omega) ?_; intro v1 w1 hown' hgrow _; have O1 := Lib.hid (OwnB.snoc (m := [10]) hown' rfl rfl); have B1 := Lib.hid (row_below H.out.bel H.out.own ((Below.refl _ _).alloc (Nat.le_refl _) _) hgrow HSZ.out); clear hown' hgrow)
                go_roundw
                case rel => exact ⟨j + 1 + 1, _, by omega, by go_num, ⟨O1.out, B1.out, E1.out, by have := H.out.len; rw [List.length_append, List.length_singleton]; omega⟩⟩
                case measure => simp [intOf]; omega
              · by_cases hesc : s[j + 1].toNat = 92 ∨ s[j + 1].toNat = 34
                · have t7 : ((s[j + 1].toNat : Int) == 110) = false := by simp; omega
                  have E1 : Hid (u = pre (o ++ [s[j + 1]]) (unq (s.data.toList.drop (j + 1 + 1)))) := by
                    rw [H.out.eq, D0.out, D1.out, unq_esc _ h92 hesc, pre_pre]
                    rfl
                  have hes : (((s[j + 1].toNat : Int) != 92) = false) ∨ (((s[j + 1].toNat : Int) != 92) = true ∧ ((s[j + 1].toNat : Int) != 34) = false) := by
                    rcases hesc with h | h
                    · exact .inl (by simp; omega)
                    · exact .inr ⟨by simp; omega, by simp; omega⟩
                  clear h34 h10 h92 h110 hesc
                  rcases hes with t4 | ⟨t4, t5⟩
                  all_goals
                    go_wp2_with (at_builtin; refine wpList_append_own _ rfl (.tmp 62) (.tmp 66) 47 rfl w.heap.size 5 i0 _ 1 1 Try.underlying47 hi hz0 hz1 hz2 rfl (by decide) u7 _ _ rfl (H.out.own.below ((Below.refl _ _).alloc (Nat.le_refl _) _)) ⟨wr.heap.size, 0, none⟩ 1 1 [.int .u8 (s[j + 1].toNat : Int)] rfl rfl (cell_one_new _ _ _) (by simp [Value.oneCell']) (by simp only [maxLen]; omega) (by omega) (by have := HSZ.out; simp; omega) ?_; intro v1 w1 hown' hgrow _; have O1 := Lib.hid (OwnB.snoc (m := [s[j + 1]]) hown' rfl rfl); have B1 := Lib.hid (row_below H.out.bel H.out.own ((Below.refl _ _).alloc (Nat.le_refl _) _) hgrow HSZ.out); clear hown' hgrow)
                    go_roundw
                    case rel => exact ⟨j + 1 + 1, _, by omega, by go_num, ⟨O1.out, B1.out, E1.out, by have := H.out.len; rw [List.length_append, List.length_singleton]; omega⟩⟩
                    case measure => simp [intOf]; omega
                · have t4 : ((s[j + 1].toNat : Int) != 92) = true := by simp; omega
                  have t5 : ((s[j + 1].toNat : Int) != 34) = true := by simp; omega
                  have t6 : ((s[j + 1].toNat : Int) != 110) = true := by simp; omega
                  have OK : Hid (RVal u s i ⟨#[]⟩ 0 false) := by
                    refine ⟨fun h => (by cases h), fun _ => ?_, fun h => (by cases h)⟩
                    rw [H.out.eq, D0.out, D1.out, unq_bad _ h92 (fun h => hesc (.inl h)) (fun h => hesc (.inr h)) h110]; rfl
                  clear h34 h10 h92 h110 hesc
                  go_wp2
                  refine ret3 rfl rfl ?_
                  exact ⟨⟨#[]⟩, 0, false, rfl, H.out.bel, OK.out⟩
            · have OK : Hid (RVal u s i ⟨#[]⟩ 0 false) := by
                refine ⟨fun h => (by cases h), fun _ => ?_, fun h => (by cases h)⟩
                rw [H.out.eq, D0.out, List.drop_of_length_le (l := s.data.toList) (i := j + 1) (by rw [Array.length_toList]; show s.size ≤ j + 1; omega), unq_one h92]; rfl
              clear h34 h10 h92
              go_wp2
              refine ret3 rfl rfl ?_
              exact ⟨⟨#[]⟩, 0, false, rfl, H.out.bel, OK.out⟩
          · have t3 : ((s[j].toNat : Int) == 92) = false := by simp; omega
            have E1 : Hid (u = pre (o ++ [s[j]]) (unq (s.data.toList.drop (j + 1)))) := by
              rw [H.out.eq, D0.out, unq_plain _ (by unfold plainB; rw [decide_eq_true_iff]; omega), pre_pre]
              rfl
            clear h34 h10 h92
            go_wp2_with (at_builtin; refine wpList_append_own _ rfl (.tmp 62) (.tmp 66) 47 rfl w.heap.size 5 i0 _ 1 1 Try.underlying47 hi hz0 hz1 hz2 rfl (by decide) u7 _ _ rfl (H.out.own.below ((Below.refl _ _).alloc (Nat.le_refl _) _)) ⟨wr.heap.size, 0, none⟩ 1 1 [.int .u8 (s[j].toNat : Int)] rfl rfl (cell_one_new _ _ _) (by simp [Value.oneCell']) (by simp only [maxLen]; omega) (by omega) (by have := HSZ.out; simp; omega) ?_; intro v1 w1 hown' hgrow _; have O1 := Lib.hid (OwnB.snoc (m := [s[j]]) hown' rfl rfl); have B1 := Lib.hid (row_below H.out.bel H.out.own ((Below.refl _ _).alloc (Nat.le_refl _) _) hgrow HSZ.out); clear hown' hgrow)
            go_roundw
            case rel => exact ⟨j + 1, _, by omega, by go_num, ⟨O1.out, B1.out, E1.out, by have := H.out.len; rw [List.length_append, List.length_singleton]; omega⟩⟩
            case measure => simp [intOf]; omega
    · have OK : Hid (RVal u s i ⟨#[]⟩ 0 false) := by
        refine ⟨fun h => (by cases h), fun _ => ?_, fun h => (by cases h)⟩
        rw [H.out.eq, List.drop_of_length_le (by rw [Array.length_toList]; show s.size ≤ j; omega), unq_nil]; rfl
      go_wp2
      refine ret3 rfl rfl ?_
      exact ⟨⟨#[]⟩, 0, false, rfl, H.out.bel, OK.out⟩
end Go.Proofs.Ytbphhdmnfepbnaa.Lab
