
/- Layer 6: Parse and Check of the reference. Layer 6: Empty of the reference. Layer 6: Quote of the reference. Layer 6: Prefix of the reference. -/
import Derived.Test.YtdeppcddknakjaaGreatDoorCTg
import Derived.Test.YtdeppcddknakjaaGreatDoorCS
set_option maxRecDepth 100000
set_option linter.unusedVariables false
set_option linter.unusedSimpArgs false
namespace Go.Proofs.YtdeppcddknakjaaGreatDoor.Rx
open Go.RowKit
theorem expression_all_ref (p : ByteArray) (hp : p.size ≤ 1000) : ∀ n i, p.size - i < n → i ≤ p.size → ∀ w, Calls Tryz.prog 132 #[.string p, .int .i64 (i : Int)] w (ExpQ p i w)
 | 0, i, hn, _, _ => by omega
 | n + 1, i, hn, hi, w => expression_any_ref p hp i hi w (fun j h1 h2 V => expression_all_ref p hp n j (by omega) h2 V)
/-- What Parse returns. -/
def ParQ (p : ByteArray) (w : World) (e : Ending) (w' : World) : Prop := ∃ (C : List Value) (n : Int), e = .returned (.tuple #[.agg C.toArray, .int .i64 n]) ∧ Hid (C.length = 259 ∧ ∀ v ∈ C, v.oneCell' = true) ∧ Hid (n = check p.data.toList) ∧ Hid (check p.data.toList = 0 → ∃ r, parse p.data.toList = some r ∧ ReV w' (Fresh w w') C r) ∧ Hid (Below w.heap.size w w')
theorem check_long {p : ByteArray} (h : 200 < p.size) : check p.data.toList = 4 := by unfold check; rw [if_pos (by rw [size_len]; exact h)]
theorem check_bad {p : ByteArray} (h : ¬ 200 < p.size) (hn : parse p.data.toList = none) : check p.data.toList = 3 := by
 unfold check
 rw [if_neg (by rw [size_len]; exact h), hn, if_neg (by simp)]
theorem check_good {p : ByteArray} {r : Re} (h : ¬ 200 < p.size) (hn : parse p.data.toList = some r) : check p.data.toList = 0 := by
 unfold check
 rw [if_neg (by rw [size_len]; exact h), hn, if_pos (by simp)]
set_option maxHeartbeats 4000000 in
set_option maxRecDepth 100000 in
theorem parse_ref_any (p : ByteArray) (w : World) : Calls Tryz.prog 98 #[.string p] w (ParQ p w) := by
 have ZL := Lib.hid Z50_len
 have ZZ := Lib.hid zero50'
 have BZ := Lib.hid built_zero50
 have OZ : Hid (∀ v ∈ Z50, v.oneCell' = true) := (nod_ok _ _ _).2
 generalize Z50 = Z at ZL ZZ BZ OZ
 by_cases h200 : 200 < p.size
 ·have h200' : (200 : Int) < (p.size : Int) := by omega
  have HC := Lib.hid (check_long h200)
  go_enter Tryz.func98, Tryz.ntmps98
  go_wp2_with (first
   | ((with_reducible refine wpList_alloc_abs (o := ⟨some 2, .alloc 102, _, _, _, _⟩) rfl 102 rfl Z ZZ.out ?_); intro g1 w1 e1 k1 b1 s1)
   | ((with_reducible refine wpList_build_abs (o := ⟨_, .build 102 _, _, _, _, _⟩) rfl 102 _ rfl [] ?_ Z BZ.out ?_); (· first | (simp; done) | (simp; rfl) | (simp; exact ⟨rfl, rfl⟩)))
   | ((with_reducible refine wpList_store_abs (o := ⟨_, .store 102 (.tmp 2) (.tmp 10), _, _, _, _⟩) rfl 102 _ _ rfl rfl g1 Z ?_ ?_ 102 Z (k1.out) 259 size50 ZL.out ZL.out OZ.out ?_); (· rfl); (· rfl); intro w9 k9 b9 s9))
  refine bodyPost_ret (res_node2 rfl rfl rfl k9.out ZL.out) rfl ?_
  exact ⟨Z, 4, rfl, ⟨ZL.out, OZ.out⟩, HC.out.symm, fun h => (by rw [HC.out] at h; cases h), b1.out.trans (b9.out.below b1.out.size (fun n hn => by have := e1.out; omega))⟩
 ·have h200' : ¬ ((200 : Int) < (p.size : Int)) := by omega
  have KX : Hid (∀ V, Calls Tryz.prog 132 #[.string p, .int .i64 0] V (ExpQ p 0 V)) := fun V => expression_all_ref p (by omega) (p.size + 1) 0 (by omega) (by omega) V
  have H200 := Lib.hid h200
  go_enter Tryz.func98, Tryz.ntmps98
  go_upto_region 4 with (first
   | ((with_reducible refine wpList_alloc_abs (o := ⟨some 2, .alloc 102, _, _, _, _⟩) rfl 102 rfl Z ZZ.out ?_); intro g1 w1 e1 k1 b1 s1)
   | (go_at_call 132; (with_reducible refine (KX.out _).mono ?_); rintro e w2 ⟨C, k, b, rfl, HC, HT, HF, b2⟩)
   | ((with_reducible refine wpList_alloc_abs (o := ⟨some 4, .alloc 102, _, _, _, _⟩) rfl 102 rfl Z ZZ.out ?_); intro g3 w3 e3 k3 b3 s3)
   | ((with_reducible refine wpList_store_abs (o := ⟨_, .store 102 (.tmp 4) (.tmp 14), _, _, _, _⟩) rfl 102 _ _ rfl rfl g3 C ?_ ?_ 102 Z (k3.out) 259 size50 HC.out.1 ZL.out HC.out.2 ?_); (· rfl); (· rfl); intro w4 k4 b4 s4))
  have GG : Hid (w.heap.size = g1 ∧ g1 < w1.heap.size ∧ w1.heap.size ≤ w2.heap.size ∧ w2.heap.size = g3 ∧ g3 < w3.heap.size ∧ w4.heap.size = w3.heap.size) := ⟨e1.out, k1.out.lt, b2.out.size, e3.out, k3.out.lt, s4.out⟩
  have K1 : Hid (Blk w4 g1 102 Z) := ((k1.out.below b2.out k1.out.lt).below b3.out (by have := GG.out; omega)).but b4.out (by have := GG.out; omega)
  have BL : Hid (Below w.heap.size w w4) := b1.out.trans ((b2.out.mono b1.out.size).trans ((b3.out.mono (by have := GG.out; omega)).trans (b4.out.below (by have := GG.out; omega) (fun n hn => by have := GG.out; omega))))
  have RT : Hid (∀ n, ReV w2 (Fresh w1 w2) C n → ReV w4 (Fresh w1 w2) C n) := fun n h => h.keep (fun _ h => h) (fun b j hb => (b4.out.cell (p := ⟨b, j, none⟩) (by have := hb.2; have := GG.out; show b < _; omega) (fun (e : b = g3) => by have := hb.2; have := GG.out; omega)).trans (b3.out.cell (p := ⟨b, j, none⟩) hb.2))
  have hk0 : (0 : Int) ≤ (k : Int) := Int.natCast_nonneg _
  clear h200' e1 k1 b1 s1 b2 e3 k3 b3 s3 b4 s4
  revert k4
  intro k4
  cases b with
  | false =>
   have HN : Hid (check p.data.toList = 3) := by
    show _ = _
    refine check_bad H200.out ?_
    rw [parse_ex]
    have := HF.out rfl
    rw [List.drop_zero] at this
    rw [this]
   go_wp2_with (first
    | ((with_reducible refine wpList_build_abs (o := ⟨_, .build 102 _, _, _, _, _⟩) rfl 102 _ rfl [] ?_ Z BZ.out ?_); (· first | (simp; done) | (simp; rfl) | (simp; exact ⟨rfl, rfl⟩)))
    | ((with_reducible refine wpList_store_abs (o := ⟨_, .store 102 (.tmp 2) (.tmp 25), _, _, _, _⟩) rfl 102 _ _ rfl rfl g1 Z ?_ ?_ 102 Z (K1.out) 259 size50 ZL.out ZL.out OZ.out ?_); (· rfl); (· rfl); intro w9 k9 b9 s9))
   refine bodyPost_ret (res_node2 rfl rfl rfl k9.out ZL.out) rfl ?_
   exact ⟨Z, 3, rfl, ⟨ZL.out, OZ.out⟩, HN.out.symm, fun h => (by rw [HN.out] at h; cases h), BL.out.trans (b9.out.below BL.out.size (fun n hn => by have := GG.out; omega))⟩
  | true =>
   obtain ⟨n, hx, hr, _, hks⟩ := HT.out rfl
   rw [List.drop_zero] at hx
   by_cases hk : k = p.size
   ·have hk' : ((k : Int) != (p.size : Int)) = false := by rw [hk]; simp
    have HP : Hid (parse p.data.toList = some n) := by
     show _ = _
     rw [parse_ex, hx, drop_end (by omega)]
    have HN : Hid (check p.data.toList = 0) := check_good H200.out HP.out
    have RN := Lib.hid (RT.out n hr)
    clear hk hx hr HT HF
    go_wp2_with (first
     | ((with_reducible refine wpList_load_abs (o := ⟨_, .load 102 (.tmp 4), _, _, _, _⟩) rfl 102 _ rfl g3 0 ?_ C (k4.out.range) _ Tryz.underlying102 rfl 259 size50 HC.out.1 ?_); (· rfl))
     | ((with_reducible refine wpList_store_abs (o := ⟨_, .store 102 (.tmp 2) (.tmp 26), _, _, _, _⟩) rfl 102 _ _ rfl rfl g1 C ?_ ?_ 102 Z (K1.out) 259 size50 HC.out.1 ZL.out HC.out.2 ?_); (· rfl); (· rfl); intro w9 k9 b9 s9))
    refine bodyPost_ret (res_node2 rfl rfl rfl k9.out HC.out.1) rfl ?_
    exact ⟨C, 0, rfl, HC.out, HN.out.symm, fun _ => ⟨n, HP.out, RN.out.keep (fun m hm => ⟨by have := hm.1; have := GG.out; omega, by have := hm.2; have := GG.out; have := b9.out.size; omega⟩) (fun b j hb => b9.out.cell (p := ⟨b, j, none⟩) (by have := hb.2; have := GG.out; show b < _; omega) (fun (e : b = g1) => by have := hb.1; have := GG.out; omega))⟩, BL.out.trans (b9.out.below BL.out.size (fun n hn => by have := GG.out; omega))⟩
   ·have hk' : ((k : Int) != (p.size : Int)) = true := by simp; omega
    have HN : Hid (check p.data.toList = 3) := by
     show _ = _
     refine check_bad H200.out ?_
     rw [parse_ex, hx, drop_cons_ p (show k < p.size by omega)]
    clear hk hx hr HT HF
    go_wp2_with (first
     | ((with_reducible refine wpList_build_abs (o := ⟨_, .build 102 _, _, _, _, _⟩) rfl 102 _ rfl [] ?_ Z BZ.out ?_); (· first | (simp; done) | (simp; rfl) | (simp; exact ⟨rfl, rfl⟩)))
     | ((with_reducible refine wpList_store_abs (o := ⟨_, .store 102 (.tmp 2) (.tmp 25), _, _, _, _⟩) rfl 102 _ _ rfl rfl g1 Z ?_ ?_ 102 Z (K1.out) 259 size50 ZL.out ZL.out OZ.out ?_); (· rfl); (· rfl); intro w9 k9 b9 s9))
    refine bodyPost_ret (res_node2 rfl rfl rfl k9.out ZL.out) rfl ?_
    exact ⟨Z, 3, rfl, ⟨ZL.out, OZ.out⟩, HN.out.symm, fun h => (by rw [HN.out] at h; cases h), BL.out.trans (b9.out.below BL.out.size (fun n hn => by have := GG.out; omega))⟩
set_option maxHeartbeats 4000000 in
set_option maxRecDepth 100000 in
theorem check_ref_any (p : ByteArray) (w : World) : Calls Tryz.prog 70 #[.string p] w fun e w' => e = .returned (.int .i64 (check p.data.toList)) ∧ Hid (Below w.heap.size w w') := by
 have ZL := Lib.hid Z50_len
 have ZZ := Lib.hid zero50'
 generalize Z50 = Z at ZL ZZ
 have KP := Lib.hid (parse_ref_any p)
 go_enter Tryz.func70, Tryz.ntmps70
 go_wp2_with (first
  | (go_at_call 98; (with_reducible refine (KP.out _).mono ?_); rintro e w1 ⟨C, n, rfl, HC, HN, HR, b1⟩)
  | ((with_reducible refine wpList_alloc_abs (o := ⟨some 3, .alloc 102, _, _, _, _⟩) rfl 102 rfl Z ZZ.out ?_); intro g2 w2 e2 k2 b2 s2)
  | ((with_reducible refine wpList_store_abs (o := ⟨_, .store 102 (.tmp 3) (.tmp 8), _, _, _, _⟩) rfl 102 _ _ rfl rfl g2 C ?_ ?_ 102 Z (k2.out) 259 size50 HC.out.1 ZL.out HC.out.2 ?_); (· rfl); (· rfl); intro w3 k3 b3 s3))
 go_ret
 exact ⟨by rw [← HN.out]; rfl, b1.out.trans ((b2.out.mono b1.out.size).trans (b3.out.below (by have := b1.out.size; have := b2.out.size; omega) (fun n hn => by have := b1.out.size; have := e2.out; omega)))⟩
end Go.Proofs.YtdeppcddknakjaaGreatDoor.Rx
namespace Go.Proofs.YtdeppcddknakjaaGreatDoor.Rx
open Go.RowKit
theorem built_none44 : Tryz.prog.built 99 [] = some (clsC none_).toArray := by kernel_rfl
section
variable {P : Program}
theorem wpList_load_wanted {ops : Array Oper} {rest : List Oper} {op : Oper} {a : Act} {w : World} {Q : Exit → Act → World → Prop} (hgd : Region.wanted op (yielded ops a.tmps) = true) (ty : TypeId) (x : Operand) (ho : op.op = .load ty x)
  (b off : Nat) (hx : a.eval x = .pointer (some ⟨b, off, none⟩)) (cs : List Value) (hc : w.rangeAt b off cs) (d : TypeDesc)
  (hu : P.underlying ty = some d) (hd : d.isRow = true) (n : Nat) (hi : (P.info? ty).map (·.size) = some n) (hn : cs.length = n)
  (h : wpList P ops Q rest (a.put op.dst (.agg cs.toArray)) w) : wpList P ops Q (op :: rest) a w :=
 wpList_step fun _ hK => by
  rw [if_pos hgd]
  exact wp_load_mid ty x ho b off hx cs d hc hu hd (hi.trans (by rw [hn])) (hK _ _ h)
end
/-- How many of the nodes match nothing. -/
def cntE (l : List Re) : Nat := (l.filter emptyR).length
theorem cntE_take (l : List Re) {j : Nat} (h : j < l.length) : cntE (l.take (j + 1)) = cntE (l.take j) + (if emptyR l[j] = true then 1 else 0) := by
 unfold cntE
 rw [List.take_add_one, List.getElem?_eq_getElem h, List.filter_append, List.length_append, Option.toList_some, List.filter_cons]
 split <;> rfl
theorem cntE_le (l : List Re) : cntE l ≤ l.length := List.length_filter_le _ _
theorem cntE_any : ∀ l : List Re, decide (0 < cntE l) = anyE l
 | [] => rfl
 | r :: l => by
  have := cntE_any l
  unfold cntE at this ⊢
  rw [List.filter_cons, anyE, ← this]
  cases emptyR r <;> simp
theorem cntE_all : ∀ l : List Re, decide (cntE l = l.length) = allE l
 | [] => rfl
 | r :: l => by
  have := cntE_all l
  have hle := cntE_le l
  unfold cntE at this hle ⊢
  rw [List.filter_cons, allE, ← this]
  cases emptyR r
  ·simp; omega
  ·simp
set_option maxHeartbeats 4000000 in
set_option maxRecDepth 100000 in
theorem empty_leaf (f : UInt8 → Bool) (s : Bool) (w : World) : Calls Tryz.prog 125 #[.agg (nodL 1 f s (.slice none 0 0)).toArray] w (EmpP (noneIn f) w) := by
 obtain ⟨C, hC⟩ : ∃ C, C = nodL 1 f s (.slice none 0 0) := ⟨_, rfl⟩
 rw [← hC]
 obtain ⟨D, hD⟩ : ∃ D, D = clsC f := ⟨_, rfl⟩
 obtain ⟨Z, hZ⟩ : ∃ Z, Z = clsC none_ := ⟨_, rfl⟩
 have HDL : Hid (D.length = 256) := by rw [hD]; exact clsC_len _
 have k1 : Hid (Blk (w.alloc (.cells C.toArray 102)) w.heap.size 102 C) := Blk.new w 102 C
 have b1 : Hid (Below w.heap.size w (w.alloc (.cells C.toArray 102))) := (Below.refl _ _).alloc (Nat.le_refl _) _
 have c0 : (w.alloc (.cells C.toArray 102)).cell? ⟨w.heap.size, 0, none⟩ = some (.int .i64 1) := (k1.out.cell 0).trans (by rw [hC]; exact nodL_0 _ _ _ _)
 have RG : Hid ((w.alloc (.cells C.toArray 102)).rangeAt w.heap.size 1 D) := fun j v hv => (k1.out.cell (1 + j)).trans (by
  have hj : j < D.length := (List.getElem?_eq_some_iff.1 hv).1
  rw [hC, nodL, Nat.add_comm, List.getElem?_cons_succ, List.getElem?_append_left (by rw [← hD]; exact hj), ← hD]
  exact hv)
 have HEQ : ∀ wx : World, (Op.equalIn 10000 99 (.agg D.toArray) (.agg Z.toArray)).run Tryz.prog wx = .ok (noneIn f) wx := fun wx => by rw [hD, hZ]; exact eql_sets Tryz.underlying99 wx f
 have HB : Hid (Tryz.prog.built 99 [] = some Z.toArray) := by rw [hZ]; exact built_none44
 generalize noneIn f = nb at *
 clear hC hD hZ
 go_enter Tryz.func125, Tryz.ntmps125
 go_wp2_with (first
  | ((with_reducible refine wpList_load_abs (o := ⟨_, .load 99 (.tmp 8), _, _, _, _⟩) rfl 99 _ rfl w.heap.size 1 ?_ D RG.out _ Tryz.underlying99 rfl 256 size44 HDL.out ?_); (· rfl))
  | ((with_reducible refine wpList_build_abs (o := ⟨_, .build 99 _, _, _, _, _⟩) rfl 99 _ rfl [] ?_ Z HB.out ?_); (· first | rfl | simp)))
 go_ret
 exact ⟨rfl, b1.out⟩
set_option maxHeartbeats 4000000 in
set_option maxRecDepth 100000 in
theorem empty_kids2 (T : Nat → Prop) (C : List Value) (A : Option Addr) (cap : Nat) (l : List Re) (w : World) (hC : C = nodL 2 none_ false (.slice A l.length cap)) (hl : l.length ≤ 1001) (hrow : l ≠ [] → ∃ g, A = some ⟨g, 0, none⟩ ∧ T g ∧ RsV w T g 0 l) (hT : ∀ n, T n → n < w.heap.size)
  (IH : ∀ r ∈ l, ∀ C V, ReV V T C r → (∀ n, T n → n < V.heap.size) → Calls Tryz.prog 125 #[.agg C.toArray] V (EmpP (emptyR r) V)) : Calls Tryz.prog 125 #[.agg C.toArray] w (EmpP (anyE l) w) := by
 have k1 : Hid (Blk (w.alloc (.cells C.toArray 102)) w.heap.size 102 C) := Blk.new w 102 C
 have b1 : Hid (Below w.heap.size w (w.alloc (.cells C.toArray 102))) := (Below.refl _ _).alloc (Nat.le_refl _) _
 have s1 : Hid (w.heap.size < (w.alloc (.cells C.toArray 102)).heap.size) := by show _ < _; rw [World.size_alloc]; omega
 have C0 : Hid (C[0]? = some (.int .i64 2)) := by rw [hC]; exact nodL_0 _ _ _ _
 have C8 : Hid (C[258]? = some (.slice A l.length cap)) := by rw [hC]; exact (nodL_tl _ _ _ _).2
 have HROW := Lib.hid hrow
 have HT := Lib.hid hT
 have HIH := Lib.hid IH
 have c0 : (w.alloc (.cells C.toArray 102)).cell? ⟨w.heap.size, 0, none⟩ = some (.int .i64 2) := (k1.out.cell 0).trans C0.out
 clear hC hrow hT IH
 go_enter Tryz.func125, Tryz.ntmps125
 go_wp2_with fail
 clear c0
 go_loopw [3, 4] (fun vc vj wr => ∃ j : Nat, j ≤ l.length ∧ vj = .int .i64 (j : Int) ∧ vc = .int .i64 (cntE (l.take j) : Int) ∧ Hid (Below (w.alloc (.cells C.toArray 102)).heap.size (w.alloc (.cells C.toArray 102)) wr)) (fun _ vj _ => l.length - (intOf vj).toNat)
 case atStart => exact ⟨0, Nat.zero_le _, rfl, rfl, Below.refl _ _⟩
 case round =>
  obtain ⟨j, hj, rfl, rfl, HB⟩ := hrel
  have B0 : Hid (Below w.heap.size w wr) := b1.out.trans (HB.out.mono b1.out.size)
  have c0 : wr.cell? ⟨w.heap.size, 0, none⟩ = some (.int .i64 2) := ((k1.out.below HB.out s1.out).cell 0).trans C0.out
  have c8 : wr.cell? ⟨w.heap.size, 258, none⟩ = some (.slice A l.length cap) := ((k1.out.below HB.out s1.out).cell 258).trans C8.out
  have hj0 : (0 : Int) ≤ (j : Int) := Int.natCast_nonneg _
  by_cases hlt : j < l.length
  ·obtain ⟨g, rfl, hg, hrs⟩ := HROW.out (by intro e; rw [e] at hlt; simp at hlt)
   obtain ⟨D, hr0, hre⟩ := hrs.at_ j hlt
   rw [Nat.zero_add] at hr0
   have RD : Hid (wr.rangeAt g (j * 259) D) := rangeAt_keep hr0 (fun i => B0.out.cell (p := ⟨g, i, none⟩) (HT.out g hg))
   have HDL := Lib.hid hre.len
   have KC := Lib.hid (HIH.out l[j] (List.getElem_mem hlt) D wr (hre.keep (fun _ h => h) (fun b i hb => B0.out.cell (p := ⟨b, i, none⟩) (HT.out b hb))) (fun n hn => by have := HT.out n hn; have := B0.out.size; omega))
   have HS := Lib.hid (cntE_take l hlt)
   have hcl : Hid (cntE (l.take j) ≤ 1001) := by have := cntE_le (l.take j); rw [List.length_take] at this; show _ ≤ _; omega
   have hlt' : (j : Int) < (l.length : Int) := by omega
   generalize emptyR l[j] = eb at *
   generalize cntE (l.take j) = cj at *
   have hcl' := hcl.out
   have hc0 : (0 : Int) ≤ (cj : Int) := Int.natCast_nonneg _
   clear hr0 hre hrs
   cases eb with
   | true =>
    go_wp2_with (first
     | ((with_reducible refine wpList_load_abs (o := ⟨_, .load 102 (.tmp 22), _, _, _, _⟩) rfl 102 _ rfl g (j * 259) ?_ D RD.out _ Tryz.underlying102 rfl 259 size50 HDL.out.1 ?_); (· first | rfl | simp))
     | (go_at_call 125; (with_reducible refine KC.out.mono ?_); rintro e w3 ⟨rfl, b3⟩))
    go_roundw
    case rel => exact ⟨j + 1, by omega, by go_num, by (rw [HS.out, if_pos trivial]; go_num), HB.out.trans (b3.out.mono HB.out.size)⟩
    case measure => simp [intOf]; omega
   | false =>
    go_wp2_with (first
     | ((with_reducible refine wpList_load_abs (o := ⟨_, .load 102 (.tmp 22), _, _, _, _⟩) rfl 102 _ rfl g (j * 259) ?_ D RD.out _ Tryz.underlying102 rfl 259 size50 HDL.out.1 ?_); (· first | rfl | simp))
     | (go_at_call 125; (with_reducible refine KC.out.mono ?_); rintro e w3 ⟨rfl, b3⟩))
    go_roundw
    case rel => exact ⟨j + 1, by omega, by go_num, by (rw [HS.out, if_neg (by decide)]; rfl), HB.out.trans (b3.out.mono HB.out.size)⟩
    case measure => simp [intOf]; omega
  ·obtain rfl : j = l.length := by omega
   have hlt' : ¬ ((l.length : Int) < (l.length : Int)) := by omega
   rw [List.take_length]
   by_cases hc : 0 < cntE l
   ·have hc' : (0 : Int) < (cntE l : Int) := by omega
    have HR : Hid (anyE l = true) := by rw [← cntE_any]; exact decide_eq_true hc
    clear hc
    go_wp2_with fail
    go_ret
    exact ⟨by rw [HR.out]; rfl, B0.out⟩
   ·have hc' : ¬ ((0 : Int) < (cntE l : Int)) := by omega
    have HR : Hid (anyE l = false) := by rw [← cntE_any]; exact decide_eq_false hc
    clear hc
    go_wp2_with fail
    go_ret
    exact ⟨by rw [HR.out]; rfl, B0.out⟩
set_option maxHeartbeats 4000000 in
set_option maxRecDepth 100000 in
theorem empty_kids3 (T : Nat → Prop) (C : List Value) (A : Option Addr) (cap : Nat) (l : List Re) (w : World) (hC : C = nodL 3 none_ false (.slice A l.length cap)) (hl : l.length ≤ 1001) (hrow : l ≠ [] → ∃ g, A = some ⟨g, 0, none⟩ ∧ T g ∧ RsV w T g 0 l) (hT : ∀ n, T n → n < w.heap.size)
  (IH : ∀ r ∈ l, ∀ C V, ReV V T C r → (∀ n, T n → n < V.heap.size) → Calls Tryz.prog 125 #[.agg C.toArray] V (EmpP (emptyR r) V)) : Calls Tryz.prog 125 #[.agg C.toArray] w (EmpP (allE l) w) := by
 have k1 : Hid (Blk (w.alloc (.cells C.toArray 102)) w.heap.size 102 C) := Blk.new w 102 C
 have b1 : Hid (Below w.heap.size w (w.alloc (.cells C.toArray 102))) := (Below.refl _ _).alloc (Nat.le_refl _) _
 have s1 : Hid (w.heap.size < (w.alloc (.cells C.toArray 102)).heap.size) := by show _ < _; rw [World.size_alloc]; omega
 have C0 : Hid (C[0]? = some (.int .i64 3)) := by rw [hC]; exact nodL_0 _ _ _ _
 have C8 : Hid (C[258]? = some (.slice A l.length cap)) := by rw [hC]; exact (nodL_tl _ _ _ _).2
 have HROW := Lib.hid hrow
 have HT := Lib.hid hT
 have HIH := Lib.hid IH
 have c0 : (w.alloc (.cells C.toArray 102)).cell? ⟨w.heap.size, 0, none⟩ = some (.int .i64 3) := (k1.out.cell 0).trans C0.out
 clear hC hrow hT IH
 go_enter Tryz.func125, Tryz.ntmps125
 go_wp2_with fail
 clear c0
 go_loopw [3, 4] (fun vc vj wr => ∃ j : Nat, j ≤ l.length ∧ vj = .int .i64 (j : Int) ∧ vc = .int .i64 (cntE (l.take j) : Int) ∧ Hid (Below (w.alloc (.cells C.toArray 102)).heap.size (w.alloc (.cells C.toArray 102)) wr)) (fun _ vj _ => l.length - (intOf vj).toNat)
 case atStart => exact ⟨0, Nat.zero_le _, rfl, rfl, Below.refl _ _⟩
 case round =>
  obtain ⟨j, hj, rfl, rfl, HB⟩ := hrel
  have B0 : Hid (Below w.heap.size w wr) := b1.out.trans (HB.out.mono b1.out.size)
  have c0 : wr.cell? ⟨w.heap.size, 0, none⟩ = some (.int .i64 3) := ((k1.out.below HB.out s1.out).cell 0).trans C0.out
  have c8 : wr.cell? ⟨w.heap.size, 258, none⟩ = some (.slice A l.length cap) := ((k1.out.below HB.out s1.out).cell 258).trans C8.out
  have hj0 : (0 : Int) ≤ (j : Int) := Int.natCast_nonneg _
  by_cases hlt : j < l.length
  ·obtain ⟨g, rfl, hg, hrs⟩ := HROW.out (by intro e; rw [e] at hlt; simp at hlt)
   obtain ⟨D, hr0, hre⟩ := hrs.at_ j hlt
   rw [Nat.zero_add] at hr0
   have RD : Hid (wr.rangeAt g (j * 259) D) := rangeAt_keep hr0 (fun i => B0.out.cell (p := ⟨g, i, none⟩) (HT.out g hg))
   have HDL := Lib.hid hre.len
   have KC := Lib.hid (HIH.out l[j] (List.getElem_mem hlt) D wr (hre.keep (fun _ h => h) (fun b i hb => B0.out.cell (p := ⟨b, i, none⟩) (HT.out b hb))) (fun n hn => by have := HT.out n hn; have := B0.out.size; omega))
   have HS := Lib.hid (cntE_take l hlt)
   have hcl : Hid (cntE (l.take j) ≤ 1001) := by have := cntE_le (l.take j); rw [List.length_take] at this; show _ ≤ _; omega
   have hlt' : (j : Int) < (l.length : Int) := by omega
   generalize emptyR l[j] = eb at *
   generalize cntE (l.take j) = cj at *
   have hcl' := hcl.out
   have hc0 : (0 : Int) ≤ (cj : Int) := Int.natCast_nonneg _
   clear hr0 hre hrs
   cases eb with
   | true =>
    go_wp2_with (first
     | ((with_reducible refine wpList_load_abs (o := ⟨_, .load 102 (.tmp 22), _, _, _, _⟩) rfl 102 _ rfl g (j * 259) ?_ D RD.out _ Tryz.underlying102 rfl 259 size50 HDL.out.1 ?_); (· first | rfl | simp))
     | (go_at_call 125; (with_reducible refine KC.out.mono ?_); rintro e w3 ⟨rfl, b3⟩))
    go_roundw
    case rel => exact ⟨j + 1, by omega, by go_num, by (rw [HS.out, if_pos trivial]; go_num), HB.out.trans (b3.out.mono HB.out.size)⟩
    case measure => simp [intOf]; omega
   | false =>
    go_wp2_with (first
     | ((with_reducible refine wpList_load_abs (o := ⟨_, .load 102 (.tmp 22), _, _, _, _⟩) rfl 102 _ rfl g (j * 259) ?_ D RD.out _ Tryz.underlying102 rfl 259 size50 HDL.out.1 ?_); (· first | rfl | simp))
     | (go_at_call 125; (with_reducible refine KC.out.mono ?_); rintro e w3 ⟨rfl, b3⟩))
    go_roundw
    case rel => exact ⟨j + 1, by omega, by go_num, by (rw [HS.out, if_neg (by decide)]; rfl), HB.out.trans (b3.out.mono HB.out.size)⟩
    case measure => simp [intOf]; omega
  ·obtain rfl : j = l.length := by omega
   have hlt' : ¬ ((l.length : Int) < (l.length : Int)) := by omega
   rw [List.take_length]
   by_cases hc : cntE l = l.length
   ·have hc' : ((cntE l : Int) == (l.length : Int)) = true := by simp; omega
    have HR : Hid (allE l = true) := by rw [← cntE_all]; exact decide_eq_true hc
    clear hc
    go_wp2_with fail
    go_ret
    exact ⟨by rw [HR.out]; rfl, B0.out⟩
   ·have hc' : ((cntE l : Int) == (l.length : Int)) = false := by simp; omega
    have HR : Hid (allE l = false) := by rw [← cntE_all]; exact decide_eq_false hc
    clear hc
    go_wp2_with fail
    go_ret
    exact ⟨by rw [HR.out]; rfl, B0.out⟩
set_option maxHeartbeats 4000000 in
set_option maxRecDepth 100000 in
theorem empty_kids4 (T : Nat → Prop) (C : List Value) (A : Option Addr) (cap : Nat) (l : List Re) (w : World) (hC : C = nodL 4 none_ false (.slice A l.length cap)) (hl : l.length ≤ 1001) (hrow : l ≠ [] → ∃ g, A = some ⟨g, 0, none⟩ ∧ T g ∧ RsV w T g 0 l) (hT : ∀ n, T n → n < w.heap.size)
  (IH : ∀ r ∈ l, ∀ C V, ReV V T C r → (∀ n, T n → n < V.heap.size) → Calls Tryz.prog 125 #[.agg C.toArray] V (EmpP (emptyR r) V)) : Calls Tryz.prog 125 #[.agg C.toArray] w (EmpP false w) := by
 have k1 : Hid (Blk (w.alloc (.cells C.toArray 102)) w.heap.size 102 C) := Blk.new w 102 C
 have b1 : Hid (Below w.heap.size w (w.alloc (.cells C.toArray 102))) := (Below.refl _ _).alloc (Nat.le_refl _) _
 have s1 : Hid (w.heap.size < (w.alloc (.cells C.toArray 102)).heap.size) := by show _ < _; rw [World.size_alloc]; omega
 have C0 : Hid (C[0]? = some (.int .i64 4)) := by rw [hC]; exact nodL_0 _ _ _ _
 have C8 : Hid (C[258]? = some (.slice A l.length cap)) := by rw [hC]; exact (nodL_tl _ _ _ _).2
 have HROW := Lib.hid hrow
 have HT := Lib.hid hT
 have HIH := Lib.hid IH
 have c0 : (w.alloc (.cells C.toArray 102)).cell? ⟨w.heap.size, 0, none⟩ = some (.int .i64 4) := (k1.out.cell 0).trans C0.out
 clear hC hrow hT IH
 go_enter Tryz.func125, Tryz.ntmps125
 go_wp2_with fail
 clear c0
 go_loopw [3, 4] (fun vc vj wr => ∃ j : Nat, j ≤ l.length ∧ vj = .int .i64 (j : Int) ∧ vc = .int .i64 (cntE (l.take j) : Int) ∧ Hid (Below (w.alloc (.cells C.toArray 102)).heap.size (w.alloc (.cells C.toArray 102)) wr)) (fun _ vj _ => l.length - (intOf vj).toNat)
 case atStart => exact ⟨0, Nat.zero_le _, rfl, rfl, Below.refl _ _⟩
 case round =>
  obtain ⟨j, hj, rfl, rfl, HB⟩ := hrel
  have B0 : Hid (Below w.heap.size w wr) := b1.out.trans (HB.out.mono b1.out.size)
  have c0 : wr.cell? ⟨w.heap.size, 0, none⟩ = some (.int .i64 4) := ((k1.out.below HB.out s1.out).cell 0).trans C0.out
  have c8 : wr.cell? ⟨w.heap.size, 258, none⟩ = some (.slice A l.length cap) := ((k1.out.below HB.out s1.out).cell 258).trans C8.out
  have hj0 : (0 : Int) ≤ (j : Int) := Int.natCast_nonneg _
  by_cases hlt : j < l.length
  ·obtain ⟨g, rfl, hg, hrs⟩ := HROW.out (by intro e; rw [e] at hlt; simp at hlt)
   obtain ⟨D, hr0, hre⟩ := hrs.at_ j hlt
   rw [Nat.zero_add] at hr0
   have RD : Hid (wr.rangeAt g (j * 259) D) := rangeAt_keep hr0 (fun i => B0.out.cell (p := ⟨g, i, none⟩) (HT.out g hg))
   have HDL := Lib.hid hre.len
   have KC := Lib.hid (HIH.out l[j] (List.getElem_mem hlt) D wr (hre.keep (fun _ h => h) (fun b i hb => B0.out.cell (p := ⟨b, i, none⟩) (HT.out b hb))) (fun n hn => by have := HT.out n hn; have := B0.out.size; omega))
   have HS := Lib.hid (cntE_take l hlt)
   have hcl : Hid (cntE (l.take j) ≤ 1001) := by have := cntE_le (l.take j); rw [List.length_take] at this; show _ ≤ _; omega
   have hlt' : (j : Int) < (l.length : Int) := by omega
   generalize emptyR l[j] = eb at *
   generalize cntE (l.take j) = cj at *
   have hcl' := hcl.out
   have hc0 : (0 : Int) ≤ (cj : Int) := Int.natCast_nonneg _
   clear hr0 hre hrs
   cases eb with
   | true =>
    go_wp2_with (first
     | ((with_reducible refine wpList_load_abs (o := ⟨_, .load 102 (.tmp 22), _, _, _, _⟩) rfl 102 _ rfl g (j * 259) ?_ D RD.out _ Tryz.underlying102 rfl 259 size50 HDL.out.1 ?_); (· first | rfl | simp))
     | (go_at_call 125; (with_reducible refine KC.out.mono ?_); rintro e w3 ⟨rfl, b3⟩))
    go_roundw
    case rel => exact ⟨j + 1, by omega, by go_num, by (rw [HS.out, if_pos trivial]; go_num), HB.out.trans (b3.out.mono HB.out.size)⟩
    case measure => simp [intOf]; omega
   | false =>
    go_wp2_with (first
     | ((with_reducible refine wpList_load_abs (o := ⟨_, .load 102 (.tmp 22), _, _, _, _⟩) rfl 102 _ rfl g (j * 259) ?_ D RD.out _ Tryz.underlying102 rfl 259 size50 HDL.out.1 ?_); (· first | rfl | simp))
     | (go_at_call 125; (with_reducible refine KC.out.mono ?_); rintro e w3 ⟨rfl, b3⟩))
    go_roundw
    case rel => exact ⟨j + 1, by omega, by go_num, by (rw [HS.out, if_neg (by decide)]; rfl), HB.out.trans (b3.out.mono HB.out.size)⟩
    case measure => simp [intOf]; omega
  ·obtain rfl : j = l.length := by omega
   have hlt' : ¬ ((l.length : Int) < (l.length : Int)) := by omega
   rw [List.take_length]
   go_wp2_with fail
   go_ret
   exact ⟨rfl, B0.out⟩
set_option maxHeartbeats 4000000 in
set_option maxRecDepth 100000 in
theorem empty_kids5 (T : Nat → Prop) (C : List Value) (A : Option Addr) (cap : Nat) (l : List Re) (w : World) (hC : C = nodL 5 none_ false (.slice A l.length cap)) (hl : l.length ≤ 1001) (hrow : l ≠ [] → ∃ g, A = some ⟨g, 0, none⟩ ∧ T g ∧ RsV w T g 0 l) (hT : ∀ n, T n → n < w.heap.size)
  (IH : ∀ r ∈ l, ∀ C V, ReV V T C r → (∀ n, T n → n < V.heap.size) → Calls Tryz.prog 125 #[.agg C.toArray] V (EmpP (emptyR r) V)) : Calls Tryz.prog 125 #[.agg C.toArray] w (EmpP (decide (cntE l = 1)) w) := by
 have k1 : Hid (Blk (w.alloc (.cells C.toArray 102)) w.heap.size 102 C) := Blk.new w 102 C
 have b1 : Hid (Below w.heap.size w (w.alloc (.cells C.toArray 102))) := (Below.refl _ _).alloc (Nat.le_refl _) _
 have s1 : Hid (w.heap.size < (w.alloc (.cells C.toArray 102)).heap.size) := by show _ < _; rw [World.size_alloc]; omega
 have C0 : Hid (C[0]? = some (.int .i64 5)) := by rw [hC]; exact nodL_0 _ _ _ _
 have C8 : Hid (C[258]? = some (.slice A l.length cap)) := by rw [hC]; exact (nodL_tl _ _ _ _).2
 have HROW := Lib.hid hrow
 have HT := Lib.hid hT
 have HIH := Lib.hid IH
 have c0 : (w.alloc (.cells C.toArray 102)).cell? ⟨w.heap.size, 0, none⟩ = some (.int .i64 5) := (k1.out.cell 0).trans C0.out
 clear hC hrow hT IH
 go_enter Tryz.func125, Tryz.ntmps125
 go_wp2_with fail
 clear c0
 go_loopw [3, 4] (fun vc vj wr => ∃ j : Nat, j ≤ l.length ∧ vj = .int .i64 (j : Int) ∧ vc = .int .i64 (cntE (l.take j) : Int) ∧ Hid (Below (w.alloc (.cells C.toArray 102)).heap.size (w.alloc (.cells C.toArray 102)) wr)) (fun _ vj _ => l.length - (intOf vj).toNat)
 case atStart => exact ⟨0, Nat.zero_le _, rfl, rfl, Below.refl _ _⟩
 case round =>
  obtain ⟨j, hj, rfl, rfl, HB⟩ := hrel
  have B0 : Hid (Below w.heap.size w wr) := b1.out.trans (HB.out.mono b1.out.size)
  have c0 : wr.cell? ⟨w.heap.size, 0, none⟩ = some (.int .i64 5) := ((k1.out.below HB.out s1.out).cell 0).trans C0.out
  have c8 : wr.cell? ⟨w.heap.size, 258, none⟩ = some (.slice A l.length cap) := ((k1.out.below HB.out s1.out).cell 258).trans C8.out
  have hj0 : (0 : Int) ≤ (j : Int) := Int.natCast_nonneg _
  by_cases hlt : j < l.length
  ·obtain ⟨g, rfl, hg, hrs⟩ := HROW.out (by intro e; rw [e] at hlt; simp at hlt)
   obtain ⟨D, hr0, hre⟩ := hrs.at_ j hlt
   rw [Nat.zero_add] at hr0
   have RD : Hid (wr.rangeAt g (j * 259) D) := rangeAt_keep hr0 (fun i => B0.out.cell (p := ⟨g, i, none⟩) (HT.out g hg))
   have HDL := Lib.hid hre.len
   have KC := Lib.hid (HIH.out l[j] (List.getElem_mem hlt) D wr (hre.keep (fun _ h => h) (fun b i hb => B0.out.cell (p := ⟨b, i, none⟩) (HT.out b hb))) (fun n hn => by have := HT.out n hn; have := B0.out.size; omega))
   have HS := Lib.hid (cntE_take l hlt)
   have hcl : Hid (cntE (l.take j) ≤ 1001) := by have := cntE_le (l.take j); rw [List.length_take] at this; show _ ≤ _; omega
   have hlt' : (j : Int) < (l.length : Int) := by omega
   generalize emptyR l[j] = eb at *
   generalize cntE (l.take j) = cj at *
   have hcl' := hcl.out
   have hc0 : (0 : Int) ≤ (cj : Int) := Int.natCast_nonneg _
   clear hr0 hre hrs
   cases eb with
   | true =>
    go_wp2_with (first
     | ((with_reducible refine wpList_load_abs (o := ⟨_, .load 102 (.tmp 22), _, _, _, _⟩) rfl 102 _ rfl g (j * 259) ?_ D RD.out _ Tryz.underlying102 rfl 259 size50 HDL.out.1 ?_); (· first | rfl | simp))
     | (go_at_call 125; (with_reducible refine KC.out.mono ?_); rintro e w3 ⟨rfl, b3⟩))
    go_roundw
    case rel => exact ⟨j + 1, by omega, by go_num, by (rw [HS.out, if_pos trivial]; go_num), HB.out.trans (b3.out.mono HB.out.size)⟩
    case measure => simp [intOf]; omega
   | false =>
    go_wp2_with (first
     | ((with_reducible refine wpList_load_abs (o := ⟨_, .load 102 (.tmp 22), _, _, _, _⟩) rfl 102 _ rfl g (j * 259) ?_ D RD.out _ Tryz.underlying102 rfl 259 size50 HDL.out.1 ?_); (· first | rfl | simp))
     | (go_at_call 125; (with_reducible refine KC.out.mono ?_); rintro e w3 ⟨rfl, b3⟩))
    go_roundw
    case rel => exact ⟨j + 1, by omega, by go_num, by (rw [HS.out, if_neg (by decide)]; rfl), HB.out.trans (b3.out.mono HB.out.size)⟩
    case measure => simp [intOf]; omega
  ·obtain rfl : j = l.length := by omega
   have hlt' : ¬ ((l.length : Int) < (l.length : Int)) := by omega
   rw [List.take_length]
   by_cases hc : cntE l = 1
   ·have hc' : ((cntE l : Int) == 1) = true := by simp; omega
    have HR : Hid (decide (cntE l = 1) = true) := by exact decide_eq_true hc
    clear hc
    go_wp2_with fail
    go_ret
    exact ⟨by rw [HR.out]; rfl, B0.out⟩
   ·have hc' : ((cntE l : Int) == 1) = false := by simp; omega
    have HR : Hid (decide (cntE l = 1) = false) := by exact decide_eq_false hc
    clear hc
    go_wp2_with fail
    go_ret
    exact ⟨by rw [HR.out]; rfl, B0.out⟩
theorem empty_node (T : Nat → Prop) : ∀ (n : Nat) (r : Re), SizeOf.sizeOf r < n → ∀ C V, ReV V T C r → (∀ k, T k → k < V.heap.size) → Calls Tryz.prog 125 #[.agg C.toArray] V (EmpP (emptyR r) V)
 | 0, _, hn, _, _, _, _ => by omega
 | n + 1, .byte c, hn, C, V, h, hT => by
  rw [ReV] at h
  subst h
  rw [emptyR, ← noneIn_byte c]
  exact empty_leaf _ _ V
 | n + 1, .cls f, hn, C, V, h, hT => by
  rw [ReV] at h
  subst h
  rw [emptyR]
  exact empty_leaf _ _ V
 | n + 1, .cat l, hn, C, V, h, hT => by
  rw [ReV] at h
  obtain ⟨A, cap, h1, h0, h2⟩ := h
  rw [emptyR]
  exact empty_kids2 T C A cap l V h1 h0 h2 hT (fun r hr C V h hT => empty_node T n r (by have := List.sizeOf_lt_of_mem hr; simp at hn; omega) C V h hT)
 | n + 1, .alt l, hn, C, V, h, hT => by
  rw [ReV] at h
  obtain ⟨A, cap, h1, h0, h2⟩ := h
  rw [emptyR]
  exact empty_kids3 T C A cap l V h1 h0 h2 hT (fun r hr C V h hT => empty_node T n r (by have := List.sizeOf_lt_of_mem hr; simp at hn; omega) C V h hT)
 | n + 1, .star r, hn, C, V, h, hT => by
  rw [ReV] at h
  obtain ⟨g, h1, h2, D, h3, h4⟩ := h
  rw [emptyR]
  exact empty_kids4 T C (some ⟨g, 0, none⟩) 1 [r] V h1 (by simp) (fun _ => ⟨g, rfl, h2, by rw [RsV, RsV]; exact ⟨⟨D, by rw [Nat.zero_mul]; exact h3, h4⟩, trivial⟩⟩) hT (fun q hq C V h hT => by
   rw [List.mem_singleton] at hq
   subst hq
   exact empty_node T n q (by simp at hn; omega) C V h hT)
 | n + 1, .plus r, hn, C, V, h, hT => by
  rw [ReV] at h
  obtain ⟨g, h1, h2, D, h3, h4⟩ := h
  have := empty_kids5 T C (some ⟨g, 0, none⟩) 1 [r] V h1 (by simp) (fun _ => ⟨g, rfl, h2, by rw [RsV, RsV]; exact ⟨⟨D, by rw [Nat.zero_mul]; exact h3, h4⟩, trivial⟩⟩) hT (fun q hq C V h hT => by
   rw [List.mem_singleton] at hq
   subst hq
   exact empty_node T n q (by simp at hn; omega) C V h hT)
  rw [show emptyR (.plus r) = decide (cntE [r] = 1) by
   rw [emptyR]
   unfold cntE
   rw [List.filter_cons]
   cases emptyR r <;> rfl]
  exact this
set_option maxHeartbeats 4000000 in
set_option maxRecDepth 100000 in
theorem empty_ref_any (p : ByteArray) (w : World) : Calls Tryz.prog 86 #[.string p] w (EmpP (emptyS p.data.toList) w) := by
 have ZL := Lib.hid Z50_len
 have ZZ := Lib.hid zero50'
 generalize Z50 = Z at ZL ZZ
 have KP := Lib.hid (parse_ref_any p)
 go_enter Tryz.func86, Tryz.ntmps86
 go_upto_region 2 with (first
  | (go_at_call 98; (with_reducible refine (KP.out _).mono ?_); rintro e w1 ⟨C, n, rfl, HC, HN, HR, b1⟩)
  | ((with_reducible refine wpList_alloc_abs (o := ⟨some 3, .alloc 102, _, _, _, _⟩) rfl 102 rfl Z ZZ.out ?_); intro g2 w2 e2 k2 b2 s2)
  | ((with_reducible refine wpList_store_abs (o := ⟨_, .store 102 (.tmp 3) (.tmp 8), _, _, _, _⟩) rfl 102 _ _ rfl rfl g2 C ?_ ?_ 102 Z (k2.out) 259 size50 HC.out.1 ZL.out HC.out.2 ?_); (· rfl); (· rfl); intro w3 k3 b3 s3))
 have GG : Hid (w.heap.size ≤ w1.heap.size ∧ w1.heap.size = g2 ∧ g2 < w2.heap.size ∧ w3.heap.size = w2.heap.size) := ⟨b1.out.size, e2.out, k2.out.lt, s3.out⟩
 have BL : Hid (Below w.heap.size w w3) := b1.out.trans ((b2.out.mono b1.out.size).trans (b3.out.below (by have := GG.out; omega) (fun n hn => by have := GG.out; omega)))
 by_cases hc : check p.data.toList = 0
 ·obtain ⟨r, hp, hr⟩ := HR.out hc
  obtain rfl : n = 0 := HN.out.trans hc
  have HE : Hid (emptyS p.data.toList = emptyR r) := by
   show _ = _
   unfold emptyS
   rw [hc, hp]
   rfl
  have KE := Lib.hid (empty_node (Fresh w w1) _ r (Nat.lt_succ_self _) C w3 (hr.keep (fun _ h => h) (fun b j hb => (b3.out.cell (p := ⟨b, j, none⟩) (by have := hb.2; have := GG.out; show b < _; omega) (fun (e : b = g2) => by have := hb.2; have := GG.out; omega)).trans (b2.out.cell (p := ⟨b, j, none⟩) hb.2))) (fun n hn => by have := hn.2; have := GG.out; omega))
  clear e2 k2 b2 s2 b3 s3 hp hr hc HN HR
  go_wp2_with (first
   | ((with_reducible refine wpList_load_wanted (op := ⟨_, .load 102 (.tmp 3), _, _, _, _⟩) ?_ 102 _ rfl g2 0 ?_ C (k3.out.range) _ Tryz.underlying102 rfl 259 size50 HC.out.1 ?_); (· first | rfl | simp [Region.wanted, yielded]); (· rfl))
   | (go_at_call 125; (with_reducible refine KE.out.mono ?_); rintro e w4 ⟨rfl, b4⟩))
  go_ret
  exact ⟨by rw [HE.out]; rfl, BL.out.trans (b4.out.mono BL.out.size)⟩
 ·have hn0 : (n == 0) = false := beq_false_of_ne (fun e => hc (HN.out.symm.trans e))
  have HE : Hid (emptyS p.data.toList = false) := by
   show _ = _
   unfold emptyS
   simp [hc]
  clear hc
  go_wp2_with fail
  go_ret
  exact ⟨by rw [HE.out]; rfl, BL.out⟩
end Go.Proofs.YtdeppcddknakjaaGreatDoor.Rx
namespace Go.Proofs.YtdeppcddknakjaaGreatDoor.Rx
open Go.RowKit
theorem OwnB.fresh {w w1 : World} {B : Nat} (hB : B ≤ w.heap.size) (h : w.alloc (.cells #[] 5) = w1) : OwnB w1 B (.slice (some ⟨w.heap.size, 0, none⟩) 0 0) [] := by
 subst h
 exact ⟨rfl, .inr ⟨w.heap.size, 0, #[], rfl, hB, heap_alloc_new w _, Nat.le_refl _, by decide, rfl, rfl⟩⟩
end Go.Proofs.YtdeppcddknakjaaGreatDoor.Rx
namespace Go.Proofs.YtdeppcddknakjaaGreatDoor.Rx
open Go.RowKit
def IsCat (q : Re) : Prop := ∃ x, q = .cat x
theorem pe_shape : ∀ (k : Nat) (outs now : List Re) (l : List UInt8) (n : Re) (r : List UInt8), (∀ q ∈ outs, IsCat q) → pe k outs now l = some (n, r) → ∃ L, n = .alt L ∧ ∀ q ∈ L, IsCat q
 | 0, _, _, _, _, _, _, h => by cases h
 | k + 1, outs, now, [], n, r, ho, h => by
  cases h
  exact ⟨_, rfl, fun q hq => by
   rcases List.mem_append.1 hq with h | h
   ·exact ho q h
   ·rw [List.mem_singleton] at h; exact ⟨now, h⟩⟩
 | k + 1, outs, now, c :: l, n, r, ho, h => by
  rw [pe] at h
  split at h
  ·cases h
   exact ⟨_, rfl, fun q hq => by
    rcases List.mem_append.1 hq with h | h
    ·exact ho q h
    ·rw [List.mem_singleton] at h; exact ⟨now, h⟩⟩
  ·split at h
   ·exact pe_shape k _ _ l n r (fun q hq => by
     rcases List.mem_append.1 hq with h | h
     ·exact ho q h
     ·rw [List.mem_singleton] at h; exact ⟨now, h⟩) h
   ·cases ha : atom (pe k [] []) (c :: l) with
    | none => rw [ha] at h; cases h
    | some q =>
     obtain ⟨m, r1⟩ := q
     rw [ha] at h
     simp only at h
     cases hq : post m r1 with
     | none => rw [hq] at h; cases h
     | some q =>
      obtain ⟨m', r2⟩ := q
      rw [hq] at h
      simp only at h
      exact pe_shape k _ _ r2 n r ho h
theorem parse_shape {l : List UInt8} {r : Re} (h : parse l = some r) : ∃ L, r = .alt L ∧ ∀ q ∈ L, IsCat q := by
 rw [parse_ex] at h
 cases hx : ex [] [] l with
 | none => rw [hx] at h; cases h
 | some q =>
  obtain ⟨n, t⟩ := q
  rw [hx] at h
  cases t with
  | nil => cases h; exact pe_shape _ [] [] l _ _ (fun q hq => by cases hq) hx
  | cons c t => cases h
theorem prefix_more {L : List Re} (h : L.length ≠ 1) : prefix_ (.alt L) = ([], false) := by
 match L, h with
 | [], _ => rfl
 | a :: b :: L, _ => cases a <;> rfl
/-- What the loop of Prefix looks at. -/
theorem node_look {w : World} {T : Nat → Prop} {C : List Value} {r : Re} (h : ReV w T C r) : (∃ c, r = .byte c ∧ C[257]? = some (.bool true) ∧ ∀ j, j < 256 → C[1 + j]? = some (.bool (UInt8.ofNat j == c))) ∨ ((∀ l, leadB (r :: l) = ([], false)) ∧ C[257]? = some (.bool false)) := by
 cases r with
 | byte c => rw [ReV] at h; subst h; exact .inl ⟨c, rfl, (nodL_tl _ _ _ _).1, fun j hj => nodL_set _ _ _ _ hj⟩
 | cls f => rw [ReV] at h; subst h; exact .inr ⟨fun l => rfl, (nodL_tl _ _ _ _).1⟩
 | cat l => rw [ReV] at h; obtain ⟨A, cap, rfl, _⟩ := h; exact .inr ⟨fun l => rfl, (nodL_tl _ _ _ _).1⟩
 | alt l => rw [ReV] at h; obtain ⟨A, cap, rfl, _⟩ := h; exact .inr ⟨fun l => rfl, (nodL_tl _ _ _ _).1⟩
 | star l => rw [ReV] at h; obtain ⟨g, rfl, _⟩ := h; exact .inr ⟨fun l => rfl, (nodL_tl _ _ _ _).1⟩
 | plus l => rw [ReV] at h; obtain ⟨g, rfl, _⟩ := h; exact .inr ⟨fun l => rfl, (nodL_tl _ _ _ _).1⟩
theorem cell_off {w : World} {g o : Nat} {C : List Value} {i : Nat} {v : Value} (h : w.rangeAt g o C) (hi : C[i]? = some v) : w.cell? ⟨g, o + i, none⟩ = some v := h i v hi
/-- What the inner loop has added: the byte, once it was met. -/
def met (c : UInt8) (j : Nat) : List UInt8 := if c.toNat < j then [c] else []
theorem met_zero (c : UInt8) : met c 0 = [] := if_neg (by omega)
theorem met_all (c : UInt8) : met c 256 = [c] := if_pos c.toNat_lt
theorem met_here {c : UInt8} {j : Nat} (hj : j < 256) (h : (UInt8.ofNat j == c) = true) : met c (j + 1) = met c j ++ [UInt8.ofNat j] := by
 have e : UInt8.ofNat j = c := by simpa using h
 have e2 : c.toNat = j := by rw [← e, ofNat_lt hj]
 unfold met
 rw [if_pos (by omega), if_neg (by omega), e]
 rfl
theorem met_not {c : UInt8} {j : Nat} (hj : j < 256) (h : (UInt8.ofNat j == c) = false) : met c (j + 1) = met c j := by
 have e : ¬ UInt8.ofNat j = c := by simpa using h
 have e2 : c.toNat ≠ j := fun h => e (by rw [← h]; exact UInt8.ofNat_toNat)
 unfold met
 by_cases hc : c.toNat < j
 ·rw [if_pos hc, if_pos (by omega)]
 ·rw [if_neg hc, if_neg (by omega)]
theorem met_len (c : UInt8) (j : Nat) : (met c j).length ≤ 1 := by unfold met; split <;> simp
set_option maxHeartbeats 4000000 in
set_option maxRecDepth 100000 in
theorem prefix_ref_any (s : ByteArray) (w : World) : Calls Tryz.prog 85 #[.string s] w (PreP s w) := by
 have ZL := Lib.hid Z50_len
 have ZZ := Lib.hid zero50'
 generalize Z50 = Z at ZL ZZ
 obtain ⟨i0, hi, hz0, hz1, hz2⟩ := info_parts info5
 have HI := Lib.hid hi
 have HZ0 := Lib.hid hz0
 have HZ1 := Lib.hid hz1
 have HZ2 := Lib.hid hz2
 clear hi hz0 hz1 hz2
 have KP := Lib.hid (parse_ref_any s)
 go_enter Tryz.func85, Tryz.ntmps85
 go_upto_region 2 with (first
  | (go_at_call 98; (with_reducible refine (KP.out _).mono ?_); rintro e w1 ⟨C, n, rfl, HC, HN, HR, b1⟩)
  | ((with_reducible refine wpList_alloc_abs (o := ⟨some 4, .alloc 102, _, _, _, _⟩) rfl 102 rfl Z ZZ.out ?_); intro g2 w2 e2 k2 b2 s2)
  | ((with_reducible refine wpList_store_abs (o := ⟨_, .store 102 (.tmp 4) (.tmp 13), _, _, _, _⟩) rfl 102 _ _ rfl rfl g2 C ?_ ?_ 102 Z (k2.out) 259 size50 HC.out.1 ZL.out HC.out.2 ?_); (· rfl); (· rfl); intro w3 k3 b3 s3))
 have GG : Hid (w.heap.size ≤ w1.heap.size ∧ w1.heap.size = g2 ∧ g2 < w2.heap.size ∧ w3.heap.size = w2.heap.size) := ⟨b1.out.size, e2.out, k2.out.lt, s3.out⟩
 have BL : Hid (Below w.heap.size w w3) := b1.out.trans ((b2.out.mono b1.out.size).trans (b3.out.below (by have := GG.out; omega) (fun n hn => by have := GG.out; omega)))
 by_cases hc : check s.data.toList = 0
 ·obtain ⟨r, hp, hr⟩ := HR.out hc
  obtain rfl : n = 0 := HN.out.trans hc
  obtain ⟨L, rfl, hcat⟩ := parse_shape hp
  have HP := Lib.hid (pre_yes hc hp)
  have RV : ReV w3 (Fresh w w1) C (.alt L) := hr.keep (fun _ h => h) (fun b j hb => (b3.out.cell (p := ⟨b, j, none⟩) (by have := hb.2; have := GG.out; show b < _; omega) (fun (e : b = g2) => by have := hb.2; have := GG.out; omega)).trans (b2.out.cell (p := ⟨b, j, none⟩) hb.2))
  rw [ReV] at RV
  obtain ⟨A, cap, hC, hll, hrow⟩ := RV
  have c8 : w3.cell? ⟨g2, 258, none⟩ = some (.slice A L.length cap) := (k3.out.cell 258).trans (by rw [hC]; exact (nodL_tl _ _ _ _).2)
  clear hC
  have F1 : Hid (∀ n, Fresh w w1 n → n < w3.heap.size) := fun n hn => by have := hn.2; have := GG.out; omega
  clear e2 k2 b2 s2 b3 s3 hp hr hc HN HR k3 b1 HC
  by_cases hlen : L.length = 1
  ·obtain ⟨q, rfl⟩ := List.length_eq_one_iff.1 hlen
   obtain ⟨l, rfl⟩ := hcat q (by simp)
   obtain ⟨g, rfl, hg, hrs⟩ := hrow (by simp)
   obtain ⟨D, hr0, hre⟩ := hrs.at_ 0 (by simp)
   have hre : ReV w3 (Fresh w w1) D (.cat l) := hre
   rw [ReV] at hre
   obtain ⟨A2, cap2, rfl, hl2, hrow2⟩ := hre
   have hc0 := cell_off hr0 (nodL_tl 2 none_ false (.slice A2 l.length cap2)).2
   have hc0 : w3.cell? ⟨g, 258, none⟩ = some (.slice A2 l.length cap2) := hc0
   have HPR : Hid (pre s.data.toList = leadB l) := by
    show _ = _
    rw [HP.out]
    rfl
   have HG := Lib.hid (F1.out g hg)
   have HROW := Lib.hid hrow2
   have c8 : w3.cell? ⟨g2, 258, none⟩ = some (.slice (some ⟨g, 0, none⟩) 1 cap) := c8
   have HO1 : Hid (OwnB (w3.alloc (.cells #[] 5)) w3.heap.size (.slice (some ⟨w3.heap.size, 0, none⟩) 0 0) []) := OwnB.fresh (Nat.le_refl _) rfl
   have B1 : Hid (Below w3.heap.size w3 (w3.alloc (.cells #[] 5))) := (Below.refl _ _).alloc (Nat.le_refl _) _
   have d8 : (w3.alloc (.cells #[] 5)).cell? ⟨g2, 258, none⟩ = some (.slice (some ⟨g, 0, none⟩) 1 cap) := (B1.out.cell (p := ⟨g2, 258, none⟩) (by have := GG.out; show g2 < _; omega)).trans c8
   have d0 : (w3.alloc (.cells #[] 5)).cell? ⟨g, 258, none⟩ = some (.slice A2 l.length cap2) := (B1.out.cell (p := ⟨g, 258, none⟩) HG.out).trans hc0
   clear hrow hrs hr0 hrow2 hlen hll hcat HP hc0
   go_wp2_with fail
   clear c8 d8 d0
   obtain ⟨w4, hw4⟩ : ∃ w4, w4 = w3 := ⟨_, rfl⟩
   rw [← hw4] at HO1 B1
   go_loopw [6, 8] (fun v vi wr => ∃ (k : Nat) (m : List UInt8), k ≤ l.length ∧ vi = .int .i64 k ∧ m.length = k ∧ Hid (OwnB wr w4.heap.size v m) ∧ Hid (Below w4.heap.size w4 wr) ∧ Hid (leadB l = (m ++ (leadB (l.drop k)).1, (leadB (l.drop k)).2)) ∧ True) (fun _ vi _ => l.length - (intOf vi).toNat)
   case atStart => exact ⟨0, [], Nat.zero_le _, rfl, rfl, by rw [← hw4]; exact HO1, by rw [← hw4]; exact B1, rfl, trivial⟩
   case round =>
    clear HO1 B1
    obtain ⟨k, m, hk, rfl, hm, HO, HB, HL, _⟩ := hrel
    subst hw4
    have B0 : Hid (Below w.heap.size w wr) := BL.out.trans (HB.out.mono BL.out.size)
    have hk0 : (0 : Int) ≤ (k : Int) := Int.natCast_nonneg _
    by_cases hlt : k < l.length
    ·have hlt' : (k : Int) < (l.length : Int) := by omega
     obtain ⟨g5, rfl, hg5, hrs⟩ := HROW.out (by intro e; rw [e] at hlt; simp at hlt)
     obtain ⟨D, hr0, hre⟩ := hrs.at_ k hlt
     rw [Nat.zero_add] at hr0
     have RD : Hid (wr.rangeAt g5 (k * 259) D) := rangeAt_keep hr0 (fun i => HB.out.cell (p := ⟨g5, i, none⟩) (F1.out g5 hg5))
     have HD := Lib.hid (drop_at l hlt)
     have HG5 := Lib.hid (F1.out g5 hg5)
     rcases node_look hre with ⟨c, hcb, h257, hset⟩ | ⟨hstop, h257⟩
     ·have c257 : wr.cell? ⟨g5, k * 259 + 257, none⟩ = some (.bool true) := cell_off RD.out h257
      have HSET := Lib.hid hset
      have HN : Hid (leadB l = ((m ++ [c]) ++ (leadB (l.drop (k + 1))).1, (leadB (l.drop (k + 1))).2)) := by
       show _ = _
       rw [HL.out, HD.out, hcb, leadB]
       simp
      clear hr0 hre hrs hset hcb h257 HL
      have HO0 : Hid (OwnB wr w4.heap.size u6 (m ++ met c 0)) := by rw [met_zero, List.append_nil]; exact HO.out
      have HB0 := HB
      clear HO HB B0
      go_wp2_with fail
      go_loopw [6, 9] (fun v vj wr => ∃ j : Nat, j ≤ 256 ∧ vj = .int .i64 (j : Int) ∧ Hid (OwnB wr w4.heap.size v (m ++ met c j)) ∧ Hid (Below w4.heap.size w4 wr) ∧ Hid (wr.rangeAt g5 (k * 259) D)) (fun _ vj _ => 256 - (intOf vj).toNat)
      case atStart => exact ⟨0, by omega, rfl, HO0, HB0, RD⟩
      case round =>
       clear HO0 HB0 RD c257
       obtain ⟨j, hj, rfl, HO, HB, RD⟩ := hrel
       have hj0 : (0 : Int) ≤ (j : Int) := Int.natCast_nonneg _
       by_cases hj : j < 256
       ·have hj' : (j : Int) < 256 := by omega
        have hcj : wr.cell? ⟨g5, k * 259 + 1 + j, none⟩ = some (.bool (UInt8.ofNat j == c)) := by rw [Nat.add_assoc]; exact cell_off RD.out (HSET.out j hj)
        cases hb : (UInt8.ofNat j == c) with
        | true =>
         rw [hb] at hcj
         have HME := Lib.hid (met_here hj hb)
         clear hb
         go_wp2_with (first
          | (at_builtin; refine wpList_append_own_at _ rfl (.tmp 54) (.tmp 57) 78 rfl w4.heap.size 5 i0 _ 1 1 Tryz.underlying78 HI.out HZ0.out HZ1.out HZ2.out rfl (by decide) u6 (m ++ met c j).length _ rfl (OwnB.below HO.out ((Below.refl _ _).alloc (Nat.le_refl _) _)) ⟨wr.heap.size, 0, none⟩ 1 1 [.int .u8 (j : Int)] rfl rfl (fun j u hu => by have h := (Blk.new wr 5 [.int .u8 _]).range j u hu; rw [Nat.zero_add] at h; rw [Addr.add_mid, Nat.zero_add]; exact h) (by simp [Value.oneCell']) (by have := met_len c j; simp only [maxLen, List.length_append]; omega) (by have := met_len c j; rw [List.length_append]; omega) (by have := HB.out.size; rw [World.size_alloc]; omega) ?_; intro v5 w5 ho5 hg5 _ _; have O5 := Lib.hid (OwnB.snoc (m := [UInt8.ofNat j]) ho5 (by rw [Lib.byteCells, List.map_cons, ofNat_lt hj]; rfl) rfl); have G5 := Lib.hid hg5; clear ho5 hg5))
         have B5 : Hid (Below w4.heap.size w4 w5) := HO.out.grown_ HB.out _ HB.out.size G5.out
         have HK5 : Hid (But (fun k => some k = u6.ownBlock) wr w5) := (grown_but ((Below.refl _ _).alloc (Nat.le_refl _) _) G5.out).1
         go_roundw
         case rel => exact ⟨j + 1, by omega, by go_num, by (rw [HME.out, ← List.append_assoc]; exact O5), B5, rangeAt_keep RD.out (fun i => HK5.out.cell (p := ⟨g5, i, none⟩) (Nat.lt_of_lt_of_le HG5.out HB.out.size) (fun e => by have := (HO.out.lt g5 e.symm).1; have := HG5.out; omega))⟩
         case measure => simp [intOf]; omega
        | false =>
         rw [hb] at hcj
         have HME := Lib.hid (met_not hj hb)
         clear hb
         go_wp2_with fail
         go_roundw
         case rel => exact ⟨j + 1, by omega, by go_num, by (rw [HME.out]; exact HO), HB, RD⟩
         case measure => simp [intOf]; omega
       ·obtain rfl : j = 256 := by omega
        rw [met_all] at HO
        go_wp2_with fail
        go_roundw
        case rel => exact ⟨k + 1, m ++ [c], by omega, by go_num, by rw [List.length_append, hm]; rfl, HO, HB, HN, trivial⟩
        case measure => simp [intOf]; omega
     ·have c257 : wr.cell? ⟨g5, k * 259 + 257, none⟩ = some (.bool false) := cell_off RD.out h257
      have HE : Hid (pre s.data.toList = (m, false)) := by
       show _ = _
       rw [HPR.out, HL.out, HD.out, hstop]
       simp
      obtain ⟨A6, n6, cap6, hv6, hcv⟩ := HO.out.conv
      subst hv6
      clear HL HD hstop h257 hr0 hre hrs
      go_wp2_with fail
      go_ret2
      exact ⟨_, false, rfl, B0, HE⟩
    ·obtain rfl : k = l.length := by omega
     have hlt' : ¬ ((l.length : Int) < (l.length : Int)) := by omega
     have HE : Hid (pre s.data.toList = (m, true)) := by
      show _ = _
      rw [HPR.out, HL.out, List.drop_of_length_le (Nat.le_refl _), leadB]
      simp
     obtain ⟨A6, n6, cap6, hv6, hcv⟩ := HO.out.conv
     subst hv6
     clear HL
     go_wp2_with fail
     go_ret2
     exact ⟨_, true, rfl, B0, HE⟩
  ·have hlen' : ((L.length : Int) != 1) = true := by simp; omega
   have HE : Hid (pre s.data.toList = ([], false)) := HP.out.trans (prefix_more hlen)
   clear hrow hlen HP hcat
   go_wp2_with fail
   go_ret2
   exact ⟨⟨#[]⟩, false, rfl, BL, HE⟩
 ·have hn0 : (n != 0) = true := by
   have h := HN.out
   simp
   intro e
   exact hc (h.symm.trans e)
  have HE := Lib.hid (pre_no hc)
  clear HN HR hc e2 k2 b2 s2 b3 s3 k3
  go_wp2_with fail
  go_ret2
  exact ⟨⟨#[]⟩, false, rfl, BL, HE⟩
end Go.Proofs.YtdeppcddknakjaaGreatDoor.Rx
