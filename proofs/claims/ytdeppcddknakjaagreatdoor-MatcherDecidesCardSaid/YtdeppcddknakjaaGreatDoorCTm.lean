/- Layer 6: Parse and Check of the reference. -/
import Derived.Test.YtdeppcddknakjaaGreatDoorCTg
set_option maxRecDepth 100000
set_option linter.unusedVariables false
set_option linter.unusedSimpArgs false
namespace Go.Proofs.YtdeppcddknakjaaGreatDoor.Rx
open Go.RowKit
theorem expression_all_ref (p : ByteArray) (hp : p.size ≤ 1000) : ∀ n i, p.size - i < n → i ≤ p.size → ∀ w, Calls Tryz.prog 132 #[.string p, .int .i64 (i : Int)] w (ExpQ p i w)
  | 0, i, hn, _, _ => by omega
  | n + 1, i, hn, hi, w => expression_any_ref p hp i hi w (fun j h1 h2 V => expression_all_ref p hp n j (by omega) h2 V)
/-- What Parse returns. -/
def ParQ (p : ByteArray) (w : World) (e : Ending) (w' : World) : Prop := ∃ (C : List Value) (n : Int), e = .returned (.tuple #[.agg C.toArray, .int .i64 n]) ∧ Hid (C.length = 259 ∧ ∀ v ∈ C, v.oneCell' = true) ∧ Hid (n = check p.data.toList) ∧ Hid (check p.data.toList = 0 → ∃ r, parse p.data.toList = some r ∧ ReV w' (Fresh w w') C r) ∧ Hid (Below w.heap.size w w')
theorem check_long {p : ByteArray} (h : 200 < p.size) : check p.data.toList = 4 := by unfold check; rw [if_pos (by rw [size_len]; exact h)]
theorem check_bad {p : ByteArray} (h : ¬ 200 < p.size) (hn : parse p.data.toList = none) : check p.data.toList = 3 := by
  unfold check
  rw [if_neg (by rw [size_len]; exact h), hn, if_neg (by simp)]
theorem check_good {p : ByteArray} {r : Re} (h : ¬ 200 < p.size) (hn : parse p.data.toList = some r) : check p.data.toList = 0 := by
  unfold check
  rw [if_neg (by rw [size_len]; exact h), hn, if_pos (by simp)]
set_option maxHeartbeats 4000000 in
set_option maxRecDepth 100000 in
theorem parse_ref_any (p : ByteArray) (w : World) : Calls Tryz.prog 98 #[.string p] w (ParQ p w) := by
  have ZL := Lib.hid Z50_len
  have ZZ := Lib.hid zero50'
  have BZ := Lib.hid built_zero50
  have OZ : Hid (∀ v ∈ Z50, v.oneCell' = true) := (nod_ok _ _ _).2
  generalize Z50 = Z at ZL ZZ BZ OZ
  by_cases h200 : 200 < p.size
  · have h200' : (200 : Int) < (p.size : Int) := by omega
    have HC := Lib.hid (check_long h200)
    go_enter Tryz.func98, Tryz.ntmps98
    go_wp2_with (first
      | ((with_reducible refine wpList_alloc_abs (o := ⟨some 2, .alloc 102, _, _, _, _⟩) rfl 102 rfl Z ZZ.out ?_); intro g1 w1 e1 k1 b1 s1)
      | ((with_reducible refine wpList_build_abs (o := ⟨_, .build 102 _, _, _, _, _⟩) rfl 102 _ rfl [] ?_ Z BZ.out ?_); (· first | (simp; done) | (simp; rfl) | (simp; exact ⟨rfl, rfl⟩)))
      | ((with_reducible refine wpList_store_abs (o := ⟨_, .store 102 (.tmp 2) (.tmp 10), _, _, _, _⟩) rfl 102 _ _ rfl rfl g1 Z ?_ ?_ 102 Z (k1.out) 259 size50 ZL.out ZL.out OZ.out ?_); (· rfl); (· rfl); intro w9 k9 b9 s9))
    refine bodyPost_ret (res_node2 rfl rfl rfl k9.out ZL.out) rfl ?_
    exact ⟨Z, 4, rfl, ⟨ZL.out, OZ.out⟩, HC.out.symm, fun h => (by rw [HC.out] at h; cases h), b1.out.trans (b9.out.below b1.out.size (fun n hn => by have := e1.out; omega))⟩
  · have h200' : ¬ ((200 : Int) < (p.size : Int)) := by omega
    have KX : Hid (∀ V, Calls Tryz.prog 132 #[.string p, .int .i64 0] V (ExpQ p 0 V)) := fun V => expression_all_ref p (by omega) (p.size + 1) 0 (by omega) (by omega) V
    have H200 := Lib.hid h200
    go_enter Tryz.func98, Tryz.ntmps98
    go_upto_region 4 with (first
      | ((with_reducible refine wpList_alloc_abs (o := ⟨some 2, .alloc 102, _, _, _, _⟩) rfl 102 rfl Z ZZ.out ?_); intro g1 w1 e1 k1 b1 s1)
      | (go_at_call 132; (with_reducible refine (KX.out _).mono ?_); rintro e w2 ⟨C, k, b, rfl, HC, HT, HF, b2⟩)
      | ((with_reducible refine wpList_alloc_abs (o := ⟨some 4, .alloc 102, _, _, _, _⟩) rfl 102 rfl Z ZZ.out ?_); intro g3 w3 e3 k3 b3 s3)
      | ((with_reducible refine wpList_store_abs (o := ⟨_, .store 102 (.tmp 4) (.tmp 14), _, _, _, _⟩) rfl 102 _ _ rfl rfl g3 C ?_ ?_ 102 Z (k3.out) 259 size50 HC.out.1 ZL.out HC.out.2 ?_); (· rfl); (· rfl); intro w4 k4 b4 s4))
    have GG : Hid (w.heap.size = g1 ∧ g1 < w1.heap.size ∧ w1.heap.size ≤ w2.heap.size ∧ w2.heap.size = g3 ∧ g3 < w3.heap.size ∧ w4.heap.size = w3.heap.size) := ⟨e1.out, k1.out.lt, b2.out.size, e3.out, k3.out.lt, s4.out⟩
    have K1 : Hid (Blk w4 g1 102 Z) := ((k1.out.below b2.out k1.out.lt).below b3.out (by have := GG.out; omega)).but b4.out (by have := GG.out; omega)
    have BL : Hid (Below w.heap.size w w4) := b1.out.trans ((b2.out.mono b1.out.size).trans ((b3.out.mono (by have := GG.out; omega)).trans (b4.out.below (by have := GG.out; omega) (fun n hn => by have := GG.out; omega))))
    have RT : Hid (∀ n, ReV w2 (Fresh w1 w2) C n → ReV w4 (Fresh w1 w2) C n) := fun n h => h.keep (fun _ h => h) (fun b j hb => (b4.out.cell (p := ⟨b, j, none⟩) (by have := hb.2; have := GG.out; show b < _; omega) (fun (e : b = g3) => by have := hb.2; have := GG.out; omega)).trans (b3.out.cell (p := ⟨b, j, none⟩) hb.2))
    have hk0 : (0 : Int) ≤ (k : Int) := Int.natCast_nonneg _
    clear h200' e1 k1 b1 s1 b2 e3 k3 b3 s3 b4 s4
    revert k4
    intro k4
    cases b with
    | false =>
      have HN : Hid (check p.data.toList = 3) := by
        show _ = _
        refine check_bad H200.out ?_
        rw [parse_ex]
        have := HF.out rfl
        rw [List.drop_zero] at this
        rw [this]
      go_wp2_with (first
        | ((with_reducible refine wpList_build_abs (o := ⟨_, .build 102 _, _, _, _, _⟩) rfl 102 _ rfl [] ?_ Z BZ.out ?_); (· first | (simp; done) | (simp; rfl) | (simp; exact ⟨rfl, rfl⟩)))
        | ((with_reducible refine wpList_store_abs (o := ⟨_, .store 102 (.tmp 2) (.tmp 25), _, _, _, _⟩) rfl 102 _ _ rfl rfl g1 Z ?_ ?_ 102 Z (K1.out) 259 size50 ZL.out ZL.out OZ.out ?_); (· rfl); (· rfl); intro w9 k9 b9 s9))
      refine bodyPost_ret (res_node2 rfl rfl rfl k9.out ZL.out) rfl ?_
      exact ⟨Z, 3, rfl, ⟨ZL.out, OZ.out⟩, HN.out.symm, fun h => (by rw [HN.out] at h; cases h), BL.out.trans (b9.out.below BL.out.size (fun n hn => by have := GG.out; omega))⟩
    | true =>
      obtain ⟨n, hx, hr, _, hks⟩ := HT.out rfl
      rw [List.drop_zero] at hx
      by_cases hk : k = p.size
      · have hk' : ((k : Int) != (p.size : Int)) = false := by rw [hk]; simp
        have HP : Hid (parse p.data.toList = some n) := by
          show _ = _
          rw [parse_ex, hx, drop_end (by omega)]
        have HN : Hid (check p.data.toList = 0) := check_good H200.out HP.out
        have RN := Lib.hid (RT.out n hr)
        clear hk hx hr HT HF
        go_wp2_with (first
          | ((with_reducible refine wpList_load_abs (o := ⟨_, .load 102 (.tmp 4), _, _, _, _⟩) rfl 102 _ rfl g3 0 ?_ C (k4.out.range) _ Tryz.underlying102 rfl 259 size50 HC.out.1 ?_); (· rfl))
          | ((with_reducible refine wpList_store_abs (o := ⟨_, .store 102 (.tmp 2) (.tmp 26), _, _, _, _⟩) rfl 102 _ _ rfl rfl g1 C ?_ ?_ 102 Z (K1.out) 259 size50 HC.out.1 ZL.out HC.out.2 ?_); (· rfl); (· rfl); intro w9 k9 b9 s9))
        refine bodyPost_ret (res_node2 rfl rfl rfl k9.out HC.out.1) rfl ?_
        exact ⟨C, 0, rfl, HC.out, HN.out.symm, fun _ => ⟨n, HP.out, RN.out.keep (fun m hm => ⟨by have := hm.1; have := GG.out; omega, by have := hm.2; have := GG.out; have := b9.out.size; omega⟩) (fun b j hb => b9.out.cell (p := ⟨b, j, none⟩) (by have := hb.2; have := GG.out; show b < _; omega) (fun (e : b = g1) => by have := hb.1; have := GG.out; omega))⟩, BL.out.trans (b9.out.below BL.out.size (fun n hn => by have := GG.out; omega))⟩
      · have hk' : ((k : Int) != (p.size : Int)) = true := by simp; omega
        have HN : Hid (check p.data.toList = 3) := by
          show _ = _
          refine check_bad H200.out ?_
          rw [parse_ex, hx, drop_cons_ p (show k < p.size by omega)]
        clear hk hx hr HT HF
        go_wp2_with (first
          | ((with_reducible refine wpList_build_abs (o := ⟨_, .build 102 _, _, _, _, _⟩) rfl 102 _ rfl [] ?_ Z BZ.out ?_); (· first | (simp; done) | (simp; rfl) | (simp; exact ⟨rfl, rfl⟩)))
          | ((with_reducible refine wpList_store_abs (o := ⟨_, .store 102 (.tmp 2) (.tmp 25), _, _, _, _⟩) rfl 102 _ _ rfl rfl g1 Z ?_ ?_ 102 Z (K1.out) 259 size50 ZL.out ZL.out OZ.out ?_); (· rfl); (· rfl); intro w9 k9 b9 s9))
        refine bodyPost_ret (res_node2 rfl rfl rfl k9.out ZL.out) rfl ?_
        exact ⟨Z, 3, rfl, ⟨ZL.out, OZ.out⟩, HN.out.symm, fun h => (by rw [HN.out] at h; cases h), BL.out.trans (b9.out.below BL.out.size (fun n hn => by have := GG.out; omega))⟩
set_option maxHeartbeats 4000000 in
set_option maxRecDepth 100000 in
theorem check_ref_any (p : ByteArray) (w : World) : Calls Tryz.prog 70 #[.string p] w fun e w' => e = .returned (.int .i64 (check p.data.toList)) ∧ Hid (Below w.heap.size w w') := by
  have ZL := Lib.hid Z50_len
  have ZZ := Lib.hid zero50'
  generalize Z50 = Z at ZL ZZ
  have KP := Lib.hid (parse_ref_any p)
  go_enter Tryz.func70, Tryz.ntmps70
  go_wp2_with (first
    | (go_at_call 98; (with_reducible refine (KP.out _).mono ?_); rintro e w1 ⟨C, n, rfl, HC, HN, HR, b1⟩)
    | ((with_reducible refine wpList_alloc_abs (o := ⟨some 3, .alloc 102, _, _, _, _⟩) rfl 102 rfl Z ZZ.out ?_); intro g2 w2 e2 k2 b2 s2)
    | ((with_reducible refine wpList_store_abs (o := ⟨_, .store 102 (.tmp 3) (.tmp 8), _, _, _, _⟩) rfl 102 _ _ rfl rfl g2 C ?_ ?_ 102 Z (k2.out) 259 size50 HC.out.1 ZL.out HC.out.2 ?_); (· rfl); (· rfl); intro w3 k3 b3 s3))
  go_ret
  exact ⟨by rw [← HN.out]; rfl, b1.out.trans ((b2.out.mono b1.out.size).trans (b3.out.below (by have := b1.out.size; have := b2.out.size; omega) (fun n hn => by have := b1.out.size; have := e2.out; omega)))⟩
end Go.Proofs.YtdeppcddknakjaaGreatDoor.Rx
