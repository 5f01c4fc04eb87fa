/- Layer 11: the reference's Remove. -/
import Derived.Deep.RegionLaw
import Derived.Test.YtobipbedkkmlcaaSrU
set_option linter.unusedVariables false
set_option linter.unusedSimpArgs false
namespace Go.Proofs.Ytobipbedkkmlcaa.Sr
open Go.RowKit
theorem step_append_any {P : Program} (w : World) {ops : Array Oper} {o : Oper} {a : Act} {K : Act → World → Prop} {Q : Exit → Act → World → Prop} {E : Prop} (hgd : o.guard = none) (s x : Operand) (t : TypeId)
    (ho : o.op = .call { callee := .builtin .append, args := #[s, x], argTypes := #[t, t] })
    (base : Nat) (e : TypeId) (i : TypeInfo) (z : Value) (size bytes : Nat) (ht : P.underlying t = some (.slice e)) (hi : P.info? e = some i) (hz : i.zero = some z)
    (hsize : i.size = size) (hby : i.bytes = bytes) (hzs : z.cells.size = size) (hsz : 0 < size)
    (v : Value) (n : Nat) (xs : List Value) (hs : a.eval s = v) (hown : w.ownsRow base e size v n xs)
    (B : Nat) (A : Option Addr) (m c : Nat) (news : List Value) (hx : a.eval x = .slice A m c) (hr : Reads w B size A m news) (h1 : ∀ u ∈ news, u.oneCell' = true)
    (h63 : n + m ≤ maxLen) (hbytes : (n + m) * bytes ≤ 140737488355328) (hbase : base ≤ w.heap.size)
    (h : ∀ v' w', w'.ownsRow base e size v' (n + m) (xs ++ news) → w.grownBy w' v.ownBlock → (v'.ownBlock = v.ownBlock ∨ v'.ownBlock = some w.heap.size) → K (a.put o.dst v') w') :
    if Region.wanted o (yielded ops a.tmps) = true then Oper.wp P o a w K Q else E := by
  have hw : Region.wanted o (yielded ops a.tmps) = true := by simp [Region.wanted, hgd]
  rw [if_pos hw]
  exact wp_append_any w s x t ho base e i z size bytes ht hi hz hsize hby hzs hsz v n xs hs hown B A m c news hx hr h1 h63 hbytes hbase h
theorem made_own {w : World} {B : Nat} (hB : B ≤ w.heap.size) : OwnS (w.alloc (.cells #[] 33)) B (.slice (some ⟨w.heap.size, 0, none⟩) 0 0) [] := World.ownsRow_made w #[] 0 hB (by unfold maxLen; omega) (by simp)
theorem made_out {w w1 : World} (hb : Below w.heap.size w w1) (n : Nat) : OwnPost2 ([], n) w (.returned (.tuple #[.slice (some ⟨w1.heap.size, 0, none⟩) 0 0, .int .i64 (n : Int)])) (w1.alloc (.cells #[] 33)) := ⟨_, rfl, made_own hb.size, hb.alloc hb.size _⟩
theorem hit_at {l : List S} {t : Int} {k : Nat} (hk : plc l t = k) (h : k < l.length) (e : l[k].1 = t) : hit l t = some l[k].2 := by
  subst hk
  unfold hit
  rw [List.getElem?_eq_getElem h]
  exact if_pos e
theorem hit_not {l : List S} {t : Int} {k : Nat} (hk : plc l t = k) (h : k < l.length) (e : l[k].1 ≠ t) : hit l t = none := by
  subst hk
  unfold hit
  rw [List.getElem?_eq_getElem h]
  exact if_neg e
theorem hit_end {l : List S} {t : Int} (h : plc l t = l.length) : hit l t = none := by
  unfold hit
  rw [List.getElem?_eq_none (by omega)]
theorem remO_bad {l : List S} {t : Int} (h : chk 1 l ≠ 0) : remO l t = ([], 1) := if_pos h
theorem remO_no {l : List S} {t : Int} (h : chk 1 l = 0) (h2 : hit l t = none) : remO l t = ([], 7) := by
  unfold remO
  rw [if_neg (by omega), h2]
theorem remO_yes {l : List S} {t v : Int} (h : chk 1 l = 0) (h2 : hit l t = some v) : remO l t = (remL l t, 0) := by
  unfold remO
  rw [if_neg (by omega), h2]
theorem one_of {l : List Value} (h : ∀ u ∈ l, u.oneCell' = true) (k : Nat) : ∀ u ∈ l.take k, u.oneCell' = true := fun u hu => h u (List.mem_of_mem_take hu)
theorem one_ofd {l : List Value} (h : ∀ u ∈ l, u.oneCell' = true) (k : Nat) : ∀ u ∈ l.drop k, u.oneCell' = true := fun u hu => h u (List.mem_of_mem_drop hu)
theorem add_lit (b off i : Nat) : (⟨b, off, none⟩ : Addr).add i = ⟨b, off + i, none⟩ := by cases i <;> simp [Addr.add]
theorem app_below {B : Nat} {a w w' : World} {row : Option Nat} (h : Below B a w) (hg : w.grownBy w' row) (hB : B ≤ w.heap.size) (hr : ∀ g, row = some g → B ≤ g) : Below B a w' := h.grown hg hB hr
theorem row_ge {v v' : Value} {N B : Nat} (h : v'.ownBlock = v.ownBlock ∨ v'.ownBlock = some N) (hv : ∀ g, v.ownBlock = some g → B ≤ g) (hN : B ≤ N) : ∀ g, v'.ownBlock = some g → B ≤ g := fun g hg => by
  rcases h with h | h
  · exact hv g (h.symm.trans hg)
  · rw [h] at hg; cases hg; exact hN
theorem rem_own {W : World} {B : Nat} {v : Value} {l : List S} {k m : Nat} (hk : k + 1 + m = l.length) (h : W.ownsRow B 33 2 v (0 + k + m) ([] ++ (cellsL l).take (k * 2) ++ (cellsL l).drop ((k + 1) * 2))) : OwnS W B v (l.take k ++ l.drop (k + 1)) := by
  unfold OwnS
  rw [cellsL_append, cellsL_take, cellsL_drop, List.length_append, List.length_take, List.length_drop, show min k l.length + (l.length - (k + 1)) = 0 + k + m by omega]
  exact h
set_option maxHeartbeats 4000000 in
theorem refRemove_any (l : List S) (hl : l.length ≤ 100000) (A : Option Addr) (c : Nat) (hcap : l.length ≤ c) (hcc : c ≤ maxLen) (t : Int) (w : World) (hA : LS w w.heap.size A l) :
    Calls Try.prog 24 #[.slice A l.length c, .int .i64 t] w (OwnPost2 (remO l t) w) := by
  have C := Lib.hid (valid_any l hl A c w hA)
  by_cases hc : chk 1 l ≠ 0
  · have HE := Lib.hid (remO_bad (t := t) hc)
    rw [decide_eq_false hc] at C
    clear hc hA
    go_enter Try.func24, Try.ntmps24
    go_wp2_with (go_at_call 28; (with_reducible refine C.out.mono ?_); rintro e w1 ⟨rfl, hb1⟩; have HB1 := Lib.hid hb1; clear hb1)
    go_ret2
    rw [HE.out]
    exact made_out HB1.out 1
  have hc : chk 1 l = 0 := by omega
  have HA := Lib.hid hA
  have PP := Lib.hid fun w1 (hb : Below w.heap.size w w1) => place_any l hl t A c w.heap.size w1 (hA.below hb)
  have hpl := plc_le l t
  rw [decide_eq_true hc] at C
  obtain ⟨k, hkk⟩ : ∃ k, plc l t = k := ⟨_, rfl⟩
  have HIT := Lib.hid (@hit_at l t k hkk)
  have HNOT := Lib.hid (@hit_not l t k hkk)
  have HEND : Hid (k = l.length → hit l t = none) := fun h => hit_end (hkk.trans h)
  have HREM : Hid (remL l t = l.take k ++ l.drop (k + 1)) := by unfold remL; rw [hkk]; exact rfl
  simp only [hkk] at PP
  rw [hkk] at hpl
  clear hkk hA
  by_cases hlt : ¬ k < l.length
  · have HE := Lib.hid (remO_no hc (HEND.out (by omega)))
    have hke : ((k : Int) == (l.length : Int)) = true := by simp; omega
    clear hc HIT HNOT HEND HREM
    go_enter Try.func24, Try.ntmps24
    go_wp2_with (first | (go_at_call 28; (with_reducible refine C.out.mono ?_); rintro e w1 ⟨rfl, hb1⟩; have HB1 := Lib.hid hb1; clear hb1) | (go_at_call 41; (with_reducible refine (PP.out _ HB1.out).mono ?_); rintro e w2 ⟨rfl, rfl⟩))
    go_ret2
    rw [HE.out]
    exact made_out HB1.out 7
  have hlt : k < l.length := by omega
  obtain ⟨b, off, rfl, hb, h1', h2'⟩ := HA.out.at_ hlt
  have hne : ((k : Int) == (l.length : Int)) = false := by simp; omega
  have HC : Hid (∀ w1, Below w.heap.size w w1 → w1.cell? ⟨b, off + k * 2, none⟩ = some (.int .i64 l[k].1)) := fun w1 h => (h.cell (p := ⟨b, off + k * 2, none⟩) hb).trans h1'
  clear h1' h2'
  by_cases ht : l[k].1 ≠ t
  · have HE := Lib.hid (remO_no hc (HNOT.out hlt ht))
    clear hc HIT HNOT HEND HREM
    go_enter Try.func24, Try.ntmps24
    go_wp2_with (first | (go_at_call 28; (with_reducible refine C.out.mono ?_); rintro e w1 ⟨rfl, hb1⟩; have HB1 := Lib.hid hb1; have hcell := HC.out _ hb1; have hbw := Nat.lt_of_lt_of_le hb hb1.size; clear hb1) | (go_at_call 41; (with_reducible refine (PP.out _ HB1.out).mono ?_); rintro e w2 ⟨rfl, rfl⟩))
    go_ret2
    rw [HE.out]
    exact made_out HB1.out 7
  have HE := Lib.hid (remO_yes hc (HIT.out hlt (by simpa using ht)))
  rw [HREM.out] at HE
  have ht : l[k].1 = t := by simpa using ht
  have hteq : (l[k].1 != t) = false := by simp [ht]
  clear hc HIT HNOT HEND HREM ht
  obtain ⟨i0, hi, hz0, hz1, hz2⟩ := info_parts infoS
  obtain ⟨x, hx⟩ : ∃ x, l[k].1 = x := ⟨_, rfl⟩
  rw [hx] at HC hteq
  clear hx
  have tk := Lib.hid (cellsL_one' l)
  have RA : Hid (∀ w1, Below w.heap.size w w1 → Reads w1 w.heap.size 2 (some ⟨b, off, none⟩) l.length (cellsL l)) := fun w1 h => HA.out.reads.below h
  obtain ⟨D, hD⟩ : ∃ D, (if c = k + 1 then some (⟨b, off, none⟩ : Addr) else some ⟨b, off + (k + 1) * 2, none⟩) = D := ⟨_, rfl⟩
  have RD : Hid (∀ w1, Below w.heap.size w w1 → Reads w1 w.heap.size 2 D (l.length - (k + 1)) ((cellsL l).drop ((k + 1) * 2))) := fun w1 h => by
    have h3 := ((RA.out w1 h).cut (k := k + 1) (cap := c) (by omega) hcap)
    rw [Option.map_some, add_lit, hD] at h3
    exact h3
  have hkc : k ≤ c := by omega
  have hkc1 : k + 1 ≤ c := by omega
  have hkl : k + 1 ≤ l.length := by omega
  have hki0 : 0 ≤ (k : Int) + 1 := by omega
  have hki1 : (k : Int) + 1 ≤ (l.length : Int) := by omega
  have hw1 : IntKind.i64.wrap ((k : Int) + 1) = ((k + 1 : Nat) : Int) := by rw [IntWalk.i64_in _ (by omega)]; omega
  go_enter Try.func24, Try.ntmps24
  go_wp2_with (first | (go_at_call 28; (with_reducible refine C.out.mono ?_); rintro e w1 ⟨rfl, hb1⟩; have HB1 := Lib.hid hb1; have hcell := HC.out _ hb1; have hbw := Nat.lt_of_lt_of_le hb hb1.size; clear hb1) | (go_at_call 41; (with_reducible refine (PP.out _ HB1.out).mono ?_); rintro e w2 ⟨rfl, rfl⟩))
  have B2 : Hid (Below w.heap.size w (w1.alloc (.cells #[] 33)).drew) := (HB1.out.alloc HB1.out.size _).drew
  have O2 : Hid ((w1.alloc (.cells #[] 33)).drew.ownsRow w.heap.size 33 2 (.slice (some ⟨w1.heap.size, 0, none⟩) 0 0) 0 []) := made_own HB1.out.size
  have R2 : Hid (Reads (w1.alloc (.cells #[] 33)).drew w.heap.size 2 (some ⟨b, off, none⟩) k ((cellsL l).take (k * 2))) := (RA.out _ B2.out).take (by omega)
  have hsz := HB1.out.size
  have hge : ∀ g, (Value.slice (some ⟨w1.heap.size, 0, none⟩) 0 0).ownBlock = some g → w.heap.size ≤ g := fun g e => by cases e; exact hsz
  have HGE := Lib.hid hge
  clear hge
  go_region_law (first
    | (refine step_append_any _ (by rfl) (.tmp 28) (.tmp 31) 22 (by rfl) w.heap.size 33 i0 _ 2 16 Try.underlying22 hi hz0 hz1 hz2 rfl (by decide) (.slice (some ⟨w1.heap.size, 0, none⟩) 0 0) 0 [] (by rfl) O2.out w.heap.size (some ⟨b, off, none⟩) k c _ (by rfl) R2.out (one_of tk.out _) (by simp only [maxLen]; omega) (by omega) (by simp; omega) ?_; intro va wa hoa hga hata; have OA := Lib.hid hoa; have BA := Lib.hid (app_below B2.out hga (by simp; omega) HGE.out); have TA := Lib.hid (row_ge hata HGE.out (by simp; omega)); clear hoa hga hata)
    | (refine step_append_any _ (by rfl) (.tmp 32) (.tmp 36) 22 (by rfl) w.heap.size 33 i0 _ 2 16 Try.underlying22 hi hz0 hz1 hz2 rfl (by decide) va _ _ (by rfl) OA.out w.heap.size D (l.length - (k + 1)) (c - (k + 1)) _ (by rfl) (RD.out _ BA.out) (one_ofd tk.out _) (by simp only [maxLen]; omega) (by omega) BA.out.size ?_; intro vb wb hob hgb hatb; have OB := Lib.hid hob; have BB := Lib.hid (app_below BA.out hgb BA.out.size TA.out); clear hob hgb hatb))
  all_goals
    go_wp2
    go_ret2
    rw [HE.out]
    exact ⟨_, rfl, rem_own (by omega) OB.out, BB.out⟩
end Go.Proofs.Ytobipbedkkmlcaa.Sr
