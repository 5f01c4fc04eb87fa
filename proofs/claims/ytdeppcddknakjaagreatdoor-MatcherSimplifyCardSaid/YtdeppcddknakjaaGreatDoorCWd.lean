
/- Layer 7: put of the reference. Layer 7: Simplify of the reference. Layer 7: implied, Implies of the reference. -/
import Derived.Deep.RegionLaw
import Derived.Deep.AppendLies
import Derived.Test.YtdeppcddknakjaaGreatDoorCWa
set_option maxRecDepth 100000
set_option linter.unusedVariables false
set_option linter.unusedSimpArgs false
namespace Go
open Go.RowKit
/-- A slice of the call's own is appended to, at a step of a region that draws. -/
theorem step_append_own_ {P : Program} {w : World} {ops : Array Oper} {o : Oper} {a : Act} {K : Act → World → Prop} {Q : Exit → Act → World → Prop} {E : Prop} (hgd : o.guard = none) (s x : Operand) (t : TypeId)
  (ho : o.op = .call { callee := .builtin .append, args := #[s, x], argTypes := #[t, t] })
  (base : Nat) (e : TypeId) (i : TypeInfo) (z : Value) (size bytes : Nat) (ht : P.underlying t = some (.slice e)) (hi : P.info? e = some i) (hz : i.zero = some z)
  (hsize : i.size = size) (hby : i.bytes = bytes) (hzs : z.cells.size = size) (hsz : 0 < size)
  (v : Value) (n : Nat) (xs : List Value) (hs : a.eval s = v) (hown : w.ownsRow base e size v n xs)
  (ad : Addr) (m c : Nat) (news : List Value) (hx : a.eval x = .slice (some ad) m c) (hl : news.length = m * size) (hnews : ∀ j u, news[j]? = some u → w.cell? (ad.add j) = some u) (h1 : ∀ u ∈ news, u.oneCell' = true)
  (h63 : n + m ≤ maxLen) (hbytes : (n + m) * bytes ≤ 140737488355328) (hbase : base ≤ w.heap.size)
  (h : ∀ v' w', w'.ownsRow base e size v' (n + m) (xs ++ news) → w.grownBy w' v.ownBlock → (v' = .slice none 0 0 ↔ v = .slice none 0 0 ∧ m = 0) → K (a.put o.dst v') w') :
  if Region.wanted o (yielded ops a.tmps) = true then Oper.wp P o a w K Q else E := by
 have hw : Region.wanted o (yielded ops a.tmps) = true := by simp [Region.wanted, hgd]
 rw [if_pos hw]
 exact wp_append_own w s x t ho base e i z size bytes ht hi hz hsize hby hzs hsz v n xs hs hown ad m c news hx hl hnews h1 h63 hbytes hbase h
end Go
namespace Go.Proofs.YtdeppcddknakjaaGreatDoor.Mx
open Go.RowKit
open Go.Sort (grow)
open Go.Proofs.YtdeppcddknakjaaGreatDoor.Rx (EmpP SameP PreP pfxS ChkP)
open Go.Proofs.YtdeppcddknakjaaGreatDoor.Lab (nameB getL Lb LS)
/-- How many come before. -/
def ltN (l : List Mt) (m : Mt) : Nat := (l.takeWhile (fun x => decide (ltM x m))).length
theorem ltN_step : ∀ {l : List Mt} {m : Mt} {k : Nat} (hk : k < l.length), k ≤ ltN l m → (k + 1 ≤ ltN l m ↔ ltM l[k] m)
 | [], m, k, hk, _ => absurd hk (Nat.not_lt_zero k)
 | y :: l, m, 0, hk, h => by
  unfold ltN
  rw [List.takeWhile_cons]
  show _ ↔ ltM y m
  by_cases hy : ltM y m
  ·rw [decide_eq_true hy]; simp [hy]
  ·rw [decide_eq_false hy]; simp [hy]
 | y :: l, m, k + 1, hk, h => by
  have ih := ltN_step (l := l) (m := m) (k := k) (Nat.lt_of_succ_lt_succ hk)
  unfold ltN at h ih ⊢
  rw [List.takeWhile_cons] at h ⊢
  by_cases hy : ltM y m
  ·rw [decide_eq_true hy, if_pos rfl, List.length_cons] at h ⊢
   rw [List.getElem_cons_succ]
   have ih2 := ih (Nat.le_of_succ_le_succ h)
   rw [← ih2]
   exact ⟨fun h => Nat.le_of_succ_le_succ h, fun h => Nat.succ_le_succ h⟩
  ·rw [decide_eq_false hy] at h
   simp at h
theorem ltN_le (l : List Mt) (m : Mt) : ltN l m ≤ l.length := List.Sublist.length_le (List.takeWhile_sublist _)
theorem putR_cut {l : List Mt} {m : Mt} (h : m ∉ l) : putR l m = l.take (ltN l m) ++ [m] ++ l.drop (ltN l m) := by
 unfold putR ltN
 rw [if_neg h]
 have e : l.takeWhile (fun x => decide (ltM x m)) ++ l.dropWhile (fun x => decide (ltM x m)) = l := List.takeWhile_append_dropWhile
 have h1 : l.take (l.takeWhile (fun x => decide (ltM x m))).length = l.takeWhile (fun x => decide (ltM x m)) := by
  conv => lhs; rw [← e]
  rw [List.takeWhile_append_dropWhile]
  have := List.take_left (l₁ := l.takeWhile (fun x => decide (ltM x m))) (l₂ := l.dropWhile (fun x => decide (ltM x m)))
  rwa [e] at this
 have h2 : l.drop (l.takeWhile (fun x => decide (ltM x m))).length = l.dropWhile (fun x => decide (ltM x m)) := by
  have := List.drop_left (l₁ := l.takeWhile (fun x => decide (ltM x m))) (l₂ := l.dropWhile (fun x => decide (ltM x m)))
  rwa [e] at this
 rw [h1, h2]
 simp
/-- v owns l, and is no nil. -/
def OwnS (w : World) (B : Nat) (v : Value) (l : List Mt) : Prop := OwnT w B v l ∧ ∃ g cap, v = .slice (some ⟨g, 0, none⟩) l.length cap
def PutP (B : Nat) (l : List Mt) (w : World) (e : Ending) (w' : World) : Prop := ∃ v, e = .returned v ∧ Hid (OwnS w' B v l) ∧ Hid (Below w.heap.size w w')
theorem OwnS.of {w : World} {B : Nat} {v : Value} {l : List Mt} (h : OwnT w B v l) (hn : v ≠ .slice none 0 0) : OwnS w B v l := by
 refine ⟨h, ?_⟩
 rcases h.2 with ⟨rfl, _⟩ | ⟨g, cap, cur, e, _⟩
 ·exact absurd rfl hn
 ·exact ⟨g, cap, e⟩
theorem cel_take (l : List Mt) (k : Nat) {j : Nat} {u : Value} (h : (cel (l.take k))[j]? = some u) : (cel l)[j]? = some u := by
 have e : cel l = cel (l.take k) ++ cel (l.drop k) := by rw [← cel_append, List.take_append_drop]
 rw [e, List.getElem?_append_left (List.getElem?_eq_some_iff.1 h).1]
 exact h
theorem cel_drop {l : List Mt} {k : Nat} (hk : k ≤ l.length) {j : Nat} {u : Value} (h : (cel (l.drop k))[j]? = some u) : (cel l)[k * 3 + j]? = some u := by
 have e : cel l = cel (l.take k) ++ cel (l.drop k) := by rw [← cel_append, List.take_append_drop]
 have e2 : (cel (l.take k)).length = k * 3 := by rw [cel_length, List.length_take, Nat.min_eq_left hk]
 rw [e, List.getElem?_append_right (by omega), e2, show k * 3 + j - k * 3 = j by omega]
 exact h
theorem take_cells {w : World} {B g cap : Nat} {l : List Mt} (h : OwnT w B (.slice (some ⟨g, 0, none⟩) l.length cap) l) (k : Nat) : ∀ j u, (cel (l.take k))[j]? = some u → w.cell? ((⟨g, 0, none⟩ : Addr).add j) = some u :=
 fun j u hu => World.ownsRow.cells (g := g) h rfl j u (cel_take l k hu)
theorem drop_cells {w : World} {B g cap : Nat} {l : List Mt} (h : OwnT w B (.slice (some ⟨g, 0, none⟩) l.length cap) l) {k : Nat} (hk : k ≤ l.length) : ∀ j u, (cel (l.drop k))[j]? = some u → w.cell? ((⟨g, k * 3, none⟩ : Addr).add j) = some u := fun j u hu => by
 have h1 := World.ownsRow.cells (g := g) h rfl (k * 3 + j) u (cel_drop hk hu)
 have e : ∀ o i, (⟨g, o, none⟩ : Addr).add i = ⟨g, o + i, none⟩ := fun o i => by cases i <;> simp [Addr.add]
 rw [e] at h1 ⊢
 rwa [Nat.zero_add] at h1
theorem own_below {w w' : World} {B n : Nat} {v : Value} {xs : List Value} (h : w.ownsRow B 25 3 v n xs) (hb : Below w.heap.size w w') : w'.ownsRow B 25 3 v n xs := by
 refine ⟨h.1, ?_⟩
 rcases h.2 with h0 | ⟨g, cap, cur, e, h1, h2, h3⟩
 ·exact .inl h0
 ·exact .inr ⟨g, cap, cur, e, h1, (hb.block g (by have := (World.ownsRow.lt h g (by rw [e]; rfl)).2; omega)).trans h2, h3⟩
theorem own_zero {w : World} {B k : Nat} {v : Value} {xs : List Value} (h : w.ownsRow B 25 3 v (0 + k) ([] ++ xs)) : w.ownsRow B 25 3 v k xs := by
 rwa [Nat.zero_add, List.nil_append] at h
theorem own_cap {w : World} {B g cap : Nat} {l : List Mt} (h : OwnT w B (.slice (some ⟨g, 0, none⟩) l.length cap) l) : l.length ≤ cap := by
 rcases h.2 with ⟨e, _⟩ | ⟨g', cap', cur, e, _, _, h3, _⟩
 ·cases e
 ·injection e with _ _ e
  rw [e]; exact h3
set_option maxHeartbeats 16000000 in
theorem refPut_any (l : List Mt) (hl : l.length ≤ 100000) (m : Mt) (B : Nat) (v : Value) (w : World) (hv : OwnS w B v l) (hB : B ≤ w.heap.size) :
  Calls Tryz.prog 58 #[v, .agg #[.int .i64 m.k, .string m.n, .string m.v]] w (PutP B (putR l m) w) := by
 obtain ⟨i0, hi, hz0, hz1, hz2⟩ := info_parts row25
 obtain ⟨ho, g, cap, rfl⟩ := hv
 obtain ⟨A', c', hA', hm⟩ := ho.form
 obtain ⟨rfl, rfl⟩ : A' = some ⟨g, 0, none⟩ ∧ c' = cap := by injection hA' with h1 h2 h3; exact ⟨h1.symm, h3.symm⟩
 clear hA'
 obtain ⟨W, hW⟩ : ∃ W, W = w.alloc (.cells #[.int .i64 m.k, .string m.n, .string m.v] 25) := ⟨_, rfl⟩
 have BW : Hid (Below w.heap.size w W) := by rw [hW]; exact (Below.refl _ _).alloc (Nat.le_refl _) _
 have hbk : W.heap[w.heap.size]? = some (.cells #[.int .i64 m.k, .string m.n, .string m.v] 25 (0, 0)) := by rw [hW]; exact heap_alloc_new w _
 have hlt0 : w.heap.size < W.heap.size := by rw [hW]; simp
 have HBK := Lib.hid (cell3 hbk)
 have HBB := Lib.hid hbk
 have HA := Lib.hid (hm.up BW.out)
 have KH := Lib.hid (refHas_any l (by unfold maxLen; omega) m _ c' W HA.out)
 have HO := Lib.hid (ho.below BW.out)
 obtain ⟨c0, c1, c2⟩ := cell3 hbk
 have mixed : Tryz.prog.follows .mixedOrders = true := by kernel_rfl
 have HW := Lib.hid hW
 clear hW hm hbk
 by_cases hin : m ∈ l
 ·have e : hasR l m = true := decide_eq_true hin
  rw [e] at KH
  have HE : Hid (putR l m = l) := if_pos hin
  rw [HE.out]
  clear e hin HE
  go_enter Tryz.func58, Tryz.ntmps58
  go_wp2_with fail
  rw [← HW.out]
  refine KH.out.mono ?_
  rintro e w1 ⟨rfl, b1⟩
  go_wp2
  go_ret
  exact ⟨_, rfl, ⟨HO.out.below b1.out, _, _, rfl⟩, BW.out.trans (b1.out.mono BW.out.size)⟩
 ·have e : hasR l m = false := decide_eq_false hin
  rw [e] at KH
  have HE := Lib.hid (putR_cut hin)
  rw [HE.out]
  have HL := Lib.hid (fun k (hk : k < l.length) (h : k ≤ ltN l m) => ltN_step hk h)
  have HLE := ltN_le l m
  obtain ⟨N, hN⟩ : ∃ N, N = ltN l m := ⟨_, rfl⟩
  rw [← hN] at HL HLE ⊢
  obtain ⟨L, hL⟩ : ∃ L, L = l.take N ++ [m] ++ l.drop N := ⟨_, rfl⟩
  rw [← hL]
  have HLQ := Lib.hid hL
  clear e hin HE hN hL
  go_enter Tryz.func58, Tryz.ntmps58
  go_wp2_with fail
  rw [← HW.out]
  refine KH.out.mono ?_
  rintro e w1 ⟨rfl, b1⟩
  clear HW c0 c1 c2 KH
  go_wp2_with fail
  go_loopw [5] (fun q wr => ∃ k : Nat, k ≤ N ∧ q = .int .i64 k ∧ Hid (Below W.heap.size W wr)) (fun q _ => l.length - (intOf q).toNat)
  case atStart => exact ⟨0, by omega, rfl, b1⟩
  case round =>
   clear b1
   obtain ⟨k, hk, rfl, HB⟩ := hrel
   have d1 := (HB.out.cell (p := ⟨w.heap.size, 0, none⟩) hlt0).trans HBK.out.1
   have d2 := (HB.out.cell (p := ⟨w.heap.size, 1, none⟩) hlt0).trans HBK.out.2.1
   have d3 := (HB.out.cell (p := ⟨w.heap.size, 2, none⟩) hlt0).trans HBK.out.2.2
   have m1 := cell_regrown d1
   have m2 := cell_regrown d2
   have m3 := cell_regrown d3
   by_cases hlt : k < l.length
   ·obtain ⟨b, off, hA', hb, h1', h2', h3'⟩ := HA.out.at_ hlt
    obtain ⟨rfl, rfl⟩ : g = b ∧ off = 0 := by injection hA' with hA'; injection hA' with h1 h2; exact ⟨h1, h2.symm⟩
    clear hA'
    rw [Nat.zero_add] at h1' h2' h3'
    have q1 := cell_regrown ((HB.out.cell (p := ⟨g, k * 3, none⟩) hb).trans h1')
    have q2 := cell_regrown ((HB.out.cell (p := ⟨g, k * 3 + 1, none⟩) hb).trans h2')
    have q3 := cell_regrown ((HB.out.cell (p := ⟨g, k * 3 + 2, none⟩) hb).trans h3')
    have GA : Hid (∀ dd os, Calls Tryz.prog 91 #[.agg #[.int .i64 l[k].k, .string l[k].n, .string l[k].v], .agg #[.int .i64 m.k, .string m.n, .string m.v]] (grow (redrawn wr dd) os) fun e w' => e = .returned (.bool (decide (ltM l[k] m))) ∧ Below (grow (redrawn wr dd) os).heap.size (grow (redrawn wr dd) os) w') := fun dd os => below_of (refLess_any l[k] m _)
    have HL2 := Lib.hid (HL.out k hlt hk)
    clear h1' h2' h3'
    by_cases hl1 : ltM l[k] m
    ·rw [decide_eq_true hl1] at GA
     have hkN : k + 1 ≤ N := HL2.out.2 hl1
     clear hl1 HL2
     generalize l[k] = x at *
     go_wp2_with fail
     refine wp_region_quiet_below (by assumption) (by kernel_rfl) ?_
     repeat (first | go_big_quiet_step (exact Calls.regrown_of (GA.out _ _)) | quiet_step (exact Calls.regrown_of (GA.out _ _)))
     refine wpQuiet_nil ?_
     intro _ hw'
     obtain ⟨⟨dq, osq⟩, hw''⟩ := hw'
     subst hw''
     have HR : Hid (Below W.heap.size W (grow (redrawn wr dq) osq)) := HB.out.trans ((below_regrown wr dq osq).mono HB.out.size)
     clear q1 q2 q3 m1 m2 m3 GA d1 d2 d3
     generalize grow (redrawn wr dq) osq = WZ at *
     go_wp2
     go_roundw
     case rel => exact ⟨k + 1, hkN, by go_num, HR⟩
     case measure => simp [intOf]; omega
    ·rw [decide_eq_false hl1] at GA
     have hkN : k = N :=
      Nat.le_antisymm hk (Nat.le_of_not_lt fun h => hl1 (HL2.out.1 h))
     subst hkN
     clear hl1 HL2
     generalize l[k] = x at *
     go_wp2_with fail
     refine wp_region_quiet_below (by assumption) (by kernel_rfl) ?_
     repeat (first | go_big_quiet_step (exact Calls.regrown_of (GA.out _ _)) | quiet_step (exact Calls.regrown_of (GA.out _ _)))
     refine wpQuiet_nil ?_
     intro _ hw'
     obtain ⟨⟨dq, osq⟩, hw''⟩ := hw'
     subst hw''
     have HR : Hid (Below W.heap.size W (grow (redrawn wr dq) osq)) := HB.out.trans ((below_regrown wr dq osq).mono HB.out.size)
     clear q1 q2 q3 m1 m2 m3 GA d1 d2 d3
     generalize grow (redrawn wr dq) osq = WZ at *
     clear hlt HL HB
     obtain ⟨d1, d2, d3⟩ := cell3 (HR.out.block _ hlt0 |>.trans HBB.out)
     go_wp2_with fail
     have hkl : k ≤ l.length := HLE
     have HCL : Hid ((cel (l.take k)).length = k * 3) := by
      show _ = _
      rw [cel_length, List.length_take, Nat.min_eq_left hkl]
     have hcap := own_cap HO.out
     have hkc : k ≤ c' := by omega
     have HCC : Hid (∀ V, Below W.heap.size W V → ∀ j u, (cel (l.take k))[j]? = some u → V.cell? ((⟨g, 0, none⟩ : Addr).add j) = some u) := fun V hb => take_cells (HO.out.below hb) k
     have hwz : W.heap.size ≤ WZ.heap.size := HR.out.size
     have DE : Hid (Below W.heap.size W (WZ.alloc (.cells #[] 25)).drew) := (HR.out.alloc HR.out.size _).drew
     have DEX : Hid (Below W.heap.size W ((WZ.alloc (.cells #[] 25)).alloc (.cells #[.int .i64 m.k, .string m.n, .string m.v] 25)).drew) := ((HR.out.alloc HR.out.size _).alloc (HR.out.alloc HR.out.size _).size _).drew
     have DXE : Hid (Below W.heap.size W ((WZ.alloc (.cells #[.int .i64 m.k, .string m.n, .string m.v] 25)).alloc (.cells #[] 25)).drew) := ((HR.out.alloc HR.out.size _).alloc (HR.out.alloc HR.out.size _).size _).drew
     have OE : Hid ((WZ.alloc (.cells #[] 25)).drew.ownsRow W.heap.size 25 3 (.slice (some ⟨WZ.heap.size, 0, none⟩) 0 0) 0 []) := World.ownsRow_made WZ #[] 0 hwz (by unfold maxLen; omega) (by simp)
     have OXE : Hid (((WZ.alloc (.cells #[.int .i64 m.k, .string m.n, .string m.v] 25)).alloc (.cells #[] 25)).drew.ownsRow W.heap.size 25 3 (.slice (some ⟨WZ.heap.size + 1, 0, none⟩) 0 0) 0 []) := by
      have h := World.ownsRow_made (base := W.heap.size) (e := 25) (size := 3) (WZ.alloc (.cells #[.int .i64 m.k, .string m.n, .string m.v] 25)) #[] 0 (by simp; omega) (by unfold maxLen; omega) (by simp)
      rw [World.size_alloc] at h
      exact h
     have XEX : Hid (((WZ.alloc (.cells #[] 25)).alloc (.cells #[.int .i64 m.k, .string m.n, .string m.v] 25)).drew.heap[WZ.heap.size + 1]? = some (.cells #[.int .i64 m.k, .string m.n, .string m.v] 25 (0, 0))) := by
      have h := heap_alloc_new (WZ.alloc (.cells #[] 25)) (.cells #[.int .i64 m.k, .string m.n, .string m.v] 25)
      rw [World.size_alloc] at h
      exact h
     have XXE : Hid (((WZ.alloc (.cells #[.int .i64 m.k, .string m.n, .string m.v] 25)).alloc (.cells #[] 25)).drew.heap[WZ.heap.size]? = some (.cells #[.int .i64 m.k, .string m.n, .string m.v] 25 (0, 0))) :=
      (Below.heap_alloc (WZ.alloc (.cells #[.int .i64 m.k, .string m.n, .string m.v] 25)) (.cells #[] 25) WZ.heap.size (by simp)).trans (heap_alloc_new WZ (.cells #[.int .i64 m.k, .string m.n, .string m.v] 25))
     have hltz : w.heap.size < WZ.heap.size := by omega
     have e0 : (WZ.alloc (.cells #[] 25)).cell? ⟨w.heap.size, 0, none⟩ = some (.int .i64 m.k) := (((Below.refl WZ.heap.size WZ).alloc (Nat.le_refl _) _).cell (p := ⟨w.heap.size, 0, none⟩) hltz).trans d1
     have e1 : (WZ.alloc (.cells #[] 25)).cell? ⟨w.heap.size, 1, none⟩ = some (.string m.n) := (((Below.refl WZ.heap.size WZ).alloc (Nat.le_refl _) _).cell (p := ⟨w.heap.size, 1, none⟩) hltz).trans d2
     have e2 : (WZ.alloc (.cells #[] 25)).cell? ⟨w.heap.size, 2, none⟩ = some (.string m.v) := (((Below.refl WZ.heap.size WZ).alloc (Nat.le_refl _) _).cell (p := ⟨w.heap.size, 2, none⟩) hltz).trans d3
     go_region_law (first
      | (refine step_append_own_ (by rfl) (.tmp 25) (.tmp 28) 22 (by rfl) W.heap.size 25 i0 _ 3 40 Tryz.underlying22 hi hz0 hz1 hz2 rfl (by omega) (.slice (some ⟨WZ.heap.size, 0, none⟩) 0 0) 0 [] (by rfl) (OE.out) ⟨g, 0, none⟩ k c' (cel (l.take k)) (by rfl) HCL.out (HCC.out _ DE.out) (cel_ones _) (by unfold maxLen; omega) (by omega) (by simp; omega) ?_; intro va wa oa ga na; have Oa1 := Lib.hid (own_zero oa); have Ba1 : Hid (Below W.heap.size W wa) := DE.out.grown ga (by simp; omega) (fun q e => by have e := (show some (WZ.heap.size) = some q from e); injection e with e; omega); obtain ⟨ca0, ca1, ca2⟩ := cell3 ((Ba1.out.block _ hlt0).trans HBB.out))
      | (refine step_append_own_ (by rfl) (.tmp 29) (.tmp 31) 22 (by rfl) W.heap.size 25 i0 _ 3 40 Tryz.underlying22 hi hz0 hz1 hz2 rfl (by omega) va k (cel (l.take k)) (by rfl) (own_below Oa1.out ((Below.refl _ _).alloc (Nat.le_refl _) _)) ⟨wa.heap.size, 0, none⟩ 1 1 [.int .i64 m.k, .string m.n, .string m.v] (by rfl) (by rfl) (three_new wa _ _ _ _ _ rfl) (by simp [Value.oneCell']) (by unfold maxLen; omega) (by omega) (by have := Ba1.out.size; simp; omega) ?_; intro v2 w2 o2 g2 n2; have B2 : Hid (Below W.heap.size W w2) := (Ba1.out.alloc Ba1.out.size _).grown g2 (by have := Ba1.out.size; simp; omega) (fun q e => (World.ownsRow.lt Oa1.out q e).1); have N2 : Hid (v2 ≠ .slice none 0 0) := fun e => absurd (n2.1 e).2 (by omega))
      | (refine step_append_own_ (by rfl) (.tmp 25) (.tmp 28) 22 (by rfl) W.heap.size 25 i0 _ 3 40 Tryz.underlying22 hi hz0 hz1 hz2 rfl (by omega) (.slice (some ⟨WZ.heap.size, 0, none⟩) 0 0) 0 [] (by rfl) (own_below OE.out (((Below.refl _ _).alloc (Nat.le_refl _) _))) ⟨g, 0, none⟩ k c' (cel (l.take k)) (by rfl) HCL.out (HCC.out _ DEX.out) (cel_ones _) (by unfold maxLen; omega) (by omega) (by simp; omega) ?_; intro va wa oa ga na; have Oa2 := Lib.hid (own_zero oa); have Ba2 : Hid (Below W.heap.size W wa) := DEX.out.grown ga (by simp; omega) (fun q e => by have e := (show some (WZ.heap.size) = some q from e); injection e with e; omega); obtain ⟨ca0, ca1, ca2⟩ := cell3 ((Ba2.out.block _ hlt0).trans HBB.out); have X2 := Lib.hid (((ga.block (WZ.heap.size + 1) (by simp) (fun e => by have e := (show some (WZ.heap.size + 1) = some WZ.heap.size from e); injection e with e; omega))).trans XEX.out))
      | (refine step_append_own_ (by rfl) (.tmp 29) (.tmp 31) 22 (by rfl) W.heap.size 25 i0 _ 3 40 Tryz.underlying22 hi hz0 hz1 hz2 rfl (by omega) va k (cel (l.take k)) (by rfl) (Oa2.out) ⟨WZ.heap.size + 1, 0, none⟩ 1 1 [.int .i64 m.k, .string m.n, .string m.v] (by rfl) (by rfl) (World.news_of_block X2.out) (by simp [Value.oneCell']) (by unfold maxLen; omega) (by omega) (by have := Ba2.out.size; simp; omega) ?_; intro v2 w2 o2 g2 n2; have B2 : Hid (Below W.heap.size W w2) := (Ba2.out).grown g2 (by have := Ba2.out.size; simp; omega) (fun q e => (World.ownsRow.lt Oa2.out q e).1); have N2 : Hid (v2 ≠ .slice none 0 0) := fun e => absurd (n2.1 e).2 (by omega))
      | (refine step_append_own_ (by rfl) (.tmp 25) (.tmp 28) 22 (by rfl) W.heap.size 25 i0 _ 3 40 Tryz.underlying22 hi hz0 hz1 hz2 rfl (by omega) (.slice (some ⟨WZ.heap.size + 1, 0, none⟩) 0 0) 0 [] (by rfl) (OXE.out) ⟨g, 0, none⟩ k c' (cel (l.take k)) (by rfl) HCL.out (HCC.out _ DXE.out) (cel_ones _) (by unfold maxLen; omega) (by omega) (by simp; omega) ?_; intro va wa oa ga na; have Oa3 := Lib.hid (own_zero oa); have Ba3 : Hid (Below W.heap.size W wa) := DXE.out.grown ga (by simp; omega) (fun q e => by have e := (show some (WZ.heap.size + 1) = some q from e); injection e with e; omega); obtain ⟨ca0, ca1, ca2⟩ := cell3 ((Ba3.out.block _ hlt0).trans HBB.out); have X3 := Lib.hid (((ga.block WZ.heap.size (by simp; omega) (fun e => by have e := (show some WZ.heap.size = some (WZ.heap.size + 1) from e); injection e with e; omega))).trans XXE.out))
      | (refine step_append_own_ (by rfl) (.tmp 29) (.tmp 31) 22 (by rfl) W.heap.size 25 i0 _ 3 40 Tryz.underlying22 hi hz0 hz1 hz2 rfl (by omega) va k (cel (l.take k)) (by rfl) (Oa3.out) ⟨WZ.heap.size, 0, none⟩ 1 1 [.int .i64 m.k, .string m.n, .string m.v] (by rfl) (by rfl) (World.news_of_block X3.out) (by simp [Value.oneCell']) (by unfold maxLen; omega) (by omega) (by have := Ba3.out.size; simp; omega) ?_; intro v2 w2 o2 g2 n2; have B2 : Hid (Below W.heap.size W w2) := (Ba3.out).grown g2 (by have := Ba3.out.size; simp; omega) (fun q e => (World.ownsRow.lt Oa3.out q e).1); have N2 : Hid (v2 ≠ .slice none 0 0) := fun e => absurd (n2.1 e).2 (by omega)))
     all_goals
      have O2 := Lib.hid o2
      have B2h := B2
      clear o2 g2 n2 DE DEX DXE OE OXE XEX XXE HCC HCL d1 d2 d3 e0 e1 e2 B2
      have HD3 : Hid ((cel (l.drop k)).length = (l.length - k) * 3) := by
       show _ = _
       rw [cel_length, List.length_drop]
      have HOD := Lib.hid (HO.out.below B2h.out)
      have HCO : Hid (∀ v3 (w3 : World), w3.ownsRow W.heap.size 25 3 v3 (k + 1 + (l.length - k)) (cel (l.take k) ++ [.int .i64 m.k, .string m.n, .string m.v] ++ cel (l.drop k)) → v3 ≠ .slice none 0 0 → OwnS w3 B v3 L) := fun v3 w3 h hn => by
       have e1 : L.length = k + 1 + (l.length - k) := by
        rw [HLQ.out, List.length_append, List.length_append, List.length_take, List.length_drop, Nat.min_eq_left hkl]; rfl
       have e2 : cel L = cel (l.take k) ++ [.int .i64 m.k, .string m.n, .string m.v] ++ cel (l.drop k) := by
        rw [HLQ.out, cel_append, cel_append, cel_one]
       refine OwnS.of (OwnT.more (B := W.heap.size) ?_ (Nat.le_trans hB BW.out.size)) hn
       unfold OwnT
       rw [e1, e2]
       exact h
      by_cases hck : c' = k
      ·have HCD : Hid (∀ j u, (cel (l.drop k))[j]? = some u → w2.cell? ((⟨g, 0, none⟩ : Addr).add j) = some u) := fun j u hu => by
        rw [List.drop_of_length_le (by omega)] at hu
        cases hu
       go_simp
       go_wp2_with (at_builtin; refine wpList_append_own _ rfl (.tmp 33) (.tmp 36) 22 rfl W.heap.size 25 i0 _ 3 40 Tryz.underlying22 hi hz0 hz1 hz2 rfl (by decide) v2 (k + 1) (cel (l.take k) ++ [.int .i64 m.k, .string m.n, .string m.v]) rfl O2.out ⟨g, 0, none⟩ (l.length - k) _ (cel (l.drop k)) rfl HD3.out HCD.out (cel_ones _) (by unfold maxLen; omega) (by omega) B2h.out.size ?_; intro v3 w3 o3 g3 n3; have O3 := Lib.hid (HCO.out v3 w3 o3 (fun e => N2.out (n3.1 e).1)); have B3 : Hid (Below W.heap.size W w3) := B2h.out.grown g3 B2h.out.size (fun q e => (World.ownsRow.lt O2.out q e).1); clear o3 g3 n3)
       go_ret
       exact ⟨_, rfl, O3, BW.out.trans (B3.out.mono BW.out.size)⟩
      ·have HCD : Hid (∀ j u, (cel (l.drop k))[j]? = some u → w2.cell? ((⟨g, k * 3, none⟩ : Addr).add j) = some u) := drop_cells HOD.out hkl
       go_simp
       go_wp2_with (at_builtin; refine wpList_append_own _ rfl (.tmp 33) (.tmp 36) 22 rfl W.heap.size 25 i0 _ 3 40 Tryz.underlying22 hi hz0 hz1 hz2 rfl (by decide) v2 (k + 1) (cel (l.take k) ++ [.int .i64 m.k, .string m.n, .string m.v]) rfl O2.out ⟨g, k * 3, none⟩ (l.length - k) _ (cel (l.drop k)) rfl HD3.out HCD.out (cel_ones _) (by unfold maxLen; omega) (by omega) B2h.out.size ?_; intro v3 w3 o3 g3 n3; have O3 := Lib.hid (HCO.out v3 w3 o3 (fun e => N2.out (n3.1 e).1)); have B3 : Hid (Below W.heap.size W w3) := B2h.out.grown g3 B2h.out.size (fun q e => (World.ownsRow.lt O2.out q e).1); clear o3 g3 n3)
       go_ret
       exact ⟨_, rfl, O3, BW.out.trans (B3.out.mono BW.out.size)⟩
   ·obtain rfl : k = N := by omega
    have hltf : decide (k < l.length) = false := decide_eq_false hlt
    go_wp2_with fail
    refine wp_region_quiet_below (by assumption) (by kernel_rfl) ?_
    repeat (first | go_big_quiet_step (fail) | quiet_step (fail))
    refine wpQuiet_nil ?_
    intro _ hw'
    obtain ⟨⟨dq, osq⟩, hw''⟩ := hw'
    subst hw''
    have HR : Hid (Below W.heap.size W (grow (redrawn wr dq) osq)) := HB.out.trans ((below_regrown wr dq osq).mono HB.out.size)
    clear m1 m2 m3 d1 d2 d3
    generalize grow (redrawn wr dq) osq = WZ at *
    clear hlt hltf HB
    obtain ⟨d1, d2, d3⟩ := cell3 (HR.out.block _ hlt0 |>.trans HBB.out)
    go_wp2_with fail
    have hkl : k ≤ l.length := HLE
    have HCL : Hid ((cel (l.take k)).length = k * 3) := by
     show _ = _
     rw [cel_length, List.length_take, Nat.min_eq_left hkl]
    have hcap := own_cap HO.out
    have hkc : k ≤ c' := by omega
    have HCC : Hid (∀ V, Below W.heap.size W V → ∀ j u, (cel (l.take k))[j]? = some u → V.cell? ((⟨g, 0, none⟩ : Addr).add j) = some u) := fun V hb => take_cells (HO.out.below hb) k
    have hwz : W.heap.size ≤ WZ.heap.size := HR.out.size
    have DE : Hid (Below W.heap.size W (WZ.alloc (.cells #[] 25)).drew) := (HR.out.alloc HR.out.size _).drew
    have DEX : Hid (Below W.heap.size W ((WZ.alloc (.cells #[] 25)).alloc (.cells #[.int .i64 m.k, .string m.n, .string m.v] 25)).drew) := ((HR.out.alloc HR.out.size _).alloc (HR.out.alloc HR.out.size _).size _).drew
    have DXE : Hid (Below W.heap.size W ((WZ.alloc (.cells #[.int .i64 m.k, .string m.n, .string m.v] 25)).alloc (.cells #[] 25)).drew) := ((HR.out.alloc HR.out.size _).alloc (HR.out.alloc HR.out.size _).size _).drew
    have OE : Hid ((WZ.alloc (.cells #[] 25)).drew.ownsRow W.heap.size 25 3 (.slice (some ⟨WZ.heap.size, 0, none⟩) 0 0) 0 []) := World.ownsRow_made WZ #[] 0 hwz (by unfold maxLen; omega) (by simp)
    have OXE : Hid (((WZ.alloc (.cells #[.int .i64 m.k, .string m.n, .string m.v] 25)).alloc (.cells #[] 25)).drew.ownsRow W.heap.size 25 3 (.slice (some ⟨WZ.heap.size + 1, 0, none⟩) 0 0) 0 []) := by
     have h := World.ownsRow_made (base := W.heap.size) (e := 25) (size := 3) (WZ.alloc (.cells #[.int .i64 m.k, .string m.n, .string m.v] 25)) #[] 0 (by simp; omega) (by unfold maxLen; omega) (by simp)
     rw [World.size_alloc] at h
     exact h
    have XEX : Hid (((WZ.alloc (.cells #[] 25)).alloc (.cells #[.int .i64 m.k, .string m.n, .string m.v] 25)).drew.heap[WZ.heap.size + 1]? = some (.cells #[.int .i64 m.k, .string m.n, .string m.v] 25 (0, 0))) := by
     have h := heap_alloc_new (WZ.alloc (.cells #[] 25)) (.cells #[.int .i64 m.k, .string m.n, .string m.v] 25)
     rw [World.size_alloc] at h
     exact h
    have XXE : Hid (((WZ.alloc (.cells #[.int .i64 m.k, .string m.n, .string m.v] 25)).alloc (.cells #[] 25)).drew.heap[WZ.heap.size]? = some (.cells #[.int .i64 m.k, .string m.n, .string m.v] 25 (0, 0))) :=
     (Below.heap_alloc (WZ.alloc (.cells #[.int .i64 m.k, .string m.n, .string m.v] 25)) (.cells #[] 25) WZ.heap.size (by simp)).trans (heap_alloc_new WZ (.cells #[.int .i64 m.k, .string m.n, .string m.v] 25))
    have hltz : w.heap.size < WZ.heap.size := by omega
    have e0 : (WZ.alloc (.cells #[] 25)).cell? ⟨w.heap.size, 0, none⟩ = some (.int .i64 m.k) := (((Below.refl WZ.heap.size WZ).alloc (Nat.le_refl _) _).cell (p := ⟨w.heap.size, 0, none⟩) hltz).trans d1
    have e1 : (WZ.alloc (.cells #[] 25)).cell? ⟨w.heap.size, 1, none⟩ = some (.string m.n) := (((Below.refl WZ.heap.size WZ).alloc (Nat.le_refl _) _).cell (p := ⟨w.heap.size, 1, none⟩) hltz).trans d2
    have e2 : (WZ.alloc (.cells #[] 25)).cell? ⟨w.heap.size, 2, none⟩ = some (.string m.v) := (((Below.refl WZ.heap.size WZ).alloc (Nat.le_refl _) _).cell (p := ⟨w.heap.size, 2, none⟩) hltz).trans d3
    go_region_law (first
     | (refine step_append_own_ (by rfl) (.tmp 25) (.tmp 28) 22 (by rfl) W.heap.size 25 i0 _ 3 40 Tryz.underlying22 hi hz0 hz1 hz2 rfl (by omega) (.slice (some ⟨WZ.heap.size, 0, none⟩) 0 0) 0 [] (by rfl) (OE.out) ⟨g, 0, none⟩ k c' (cel (l.take k)) (by rfl) HCL.out (HCC.out _ DE.out) (cel_ones _) (by unfold maxLen; omega) (by omega) (by simp; omega) ?_; intro va wa oa ga na; have Oa1 := Lib.hid (own_zero oa); have Ba1 : Hid (Below W.heap.size W wa) := DE.out.grown ga (by simp; omega) (fun q e => by have e := (show some (WZ.heap.size) = some q from e); injection e with e; omega); obtain ⟨ca0, ca1, ca2⟩ := cell3 ((Ba1.out.block _ hlt0).trans HBB.out))
     | (refine step_append_own_ (by rfl) (.tmp 29) (.tmp 31) 22 (by rfl) W.heap.size 25 i0 _ 3 40 Tryz.underlying22 hi hz0 hz1 hz2 rfl (by omega) va k (cel (l.take k)) (by rfl) (own_below Oa1.out ((Below.refl _ _).alloc (Nat.le_refl _) _)) ⟨wa.heap.size, 0, none⟩ 1 1 [.int .i64 m.k, .string m.n, .string m.v] (by rfl) (by rfl) (three_new wa _ _ _ _ _ rfl) (by simp [Value.oneCell']) (by unfold maxLen; omega) (by omega) (by have := Ba1.out.size; simp; omega) ?_; intro v2 w2 o2 g2 n2; have B2 : Hid (Below W.heap.size W w2) := (Ba1.out.alloc Ba1.out.size _).grown g2 (by have := Ba1.out.size; simp; omega) (fun q e => (World.ownsRow.lt Oa1.out q e).1); have N2 : Hid (v2 ≠ .slice none 0 0) := fun e => absurd (n2.1 e).2 (by omega))
     | (refine step_append_own_ (by rfl) (.tmp 25) (.tmp 28) 22 (by rfl) W.heap.size 25 i0 _ 3 40 Tryz.underlying22 hi hz0 hz1 hz2 rfl (by omega) (.slice (some ⟨WZ.heap.size, 0, none⟩) 0 0) 0 [] (by rfl) (own_below OE.out (((Below.refl _ _).alloc (Nat.le_refl _) _))) ⟨g, 0, none⟩ k c' (cel (l.take k)) (by rfl) HCL.out (HCC.out _ DEX.out) (cel_ones _) (by unfold maxLen; omega) (by omega) (by simp; omega) ?_; intro va wa oa ga na; have Oa2 := Lib.hid (own_zero oa); have Ba2 : Hid (Below W.heap.size W wa) := DEX.out.grown ga (by simp; omega) (fun q e => by have e := (show some (WZ.heap.size) = some q from e); injection e with e; omega); obtain ⟨ca0, ca1, ca2⟩ := cell3 ((Ba2.out.block _ hlt0).trans HBB.out); have X2 := Lib.hid (((ga.block (WZ.heap.size + 1) (by simp) (fun e => by have e := (show some (WZ.heap.size + 1) = some WZ.heap.size from e); injection e with e; omega))).trans XEX.out))
     | (refine step_append_own_ (by rfl) (.tmp 29) (.tmp 31) 22 (by rfl) W.heap.size 25 i0 _ 3 40 Tryz.underlying22 hi hz0 hz1 hz2 rfl (by omega) va k (cel (l.take k)) (by rfl) (Oa2.out) ⟨WZ.heap.size + 1, 0, none⟩ 1 1 [.int .i64 m.k, .string m.n, .string m.v] (by rfl) (by rfl) (World.news_of_block X2.out) (by simp [Value.oneCell']) (by unfold maxLen; omega) (by omega) (by have := Ba2.out.size; simp; omega) ?_; intro v2 w2 o2 g2 n2; have B2 : Hid (Below W.heap.size W w2) := (Ba2.out).grown g2 (by have := Ba2.out.size; simp; omega) (fun q e => (World.ownsRow.lt Oa2.out q e).1); have N2 : Hid (v2 ≠ .slice none 0 0) := fun e => absurd (n2.1 e).2 (by omega))
     | (refine step_append_own_ (by rfl) (.tmp 25) (.tmp 28) 22 (by rfl) W.heap.size 25 i0 _ 3 40 Tryz.underlying22 hi hz0 hz1 hz2 rfl (by omega) (.slice (some ⟨WZ.heap.size + 1, 0, none⟩) 0 0) 0 [] (by rfl) (OXE.out) ⟨g, 0, none⟩ k c' (cel (l.take k)) (by rfl) HCL.out (HCC.out _ DXE.out) (cel_ones _) (by unfold maxLen; omega) (by omega) (by simp; omega) ?_; intro va wa oa ga na; have Oa3 := Lib.hid (own_zero oa); have Ba3 : Hid (Below W.heap.size W wa) := DXE.out.grown ga (by simp; omega) (fun q e => by have e := (show some (WZ.heap.size + 1) = some q from e); injection e with e; omega); obtain ⟨ca0, ca1, ca2⟩ := cell3 ((Ba3.out.block _ hlt0).trans HBB.out); have X3 := Lib.hid (((ga.block WZ.heap.size (by simp; omega) (fun e => by have e := (show some WZ.heap.size = some (WZ.heap.size + 1) from e); injection e with e; omega))).trans XXE.out))
     | (refine step_append_own_ (by rfl) (.tmp 29) (.tmp 31) 22 (by rfl) W.heap.size 25 i0 _ 3 40 Tryz.underlying22 hi hz0 hz1 hz2 rfl (by omega) va k (cel (l.take k)) (by rfl) (Oa3.out) ⟨WZ.heap.size, 0, none⟩ 1 1 [.int .i64 m.k, .string m.n, .string m.v] (by rfl) (by rfl) (World.news_of_block X3.out) (by simp [Value.oneCell']) (by unfold maxLen; omega) (by omega) (by have := Ba3.out.size; simp; omega) ?_; intro v2 w2 o2 g2 n2; have B2 : Hid (Below W.heap.size W w2) := (Ba3.out).grown g2 (by have := Ba3.out.size; simp; omega) (fun q e => (World.ownsRow.lt Oa3.out q e).1); have N2 : Hid (v2 ≠ .slice none 0 0) := fun e => absurd (n2.1 e).2 (by omega)))
    all_goals
     have O2 := Lib.hid o2
     have B2h := B2
     clear o2 g2 n2 DE DEX DXE OE OXE XEX XXE HCC HCL d1 d2 d3 e0 e1 e2 B2
     have HD3 : Hid ((cel (l.drop k)).length = (l.length - k) * 3) := by
      show _ = _
      rw [cel_length, List.length_drop]
     have HOD := Lib.hid (HO.out.below B2h.out)
     have HCO : Hid (∀ v3 (w3 : World), w3.ownsRow W.heap.size 25 3 v3 (k + 1 + (l.length - k)) (cel (l.take k) ++ [.int .i64 m.k, .string m.n, .string m.v] ++ cel (l.drop k)) → v3 ≠ .slice none 0 0 → OwnS w3 B v3 L) := fun v3 w3 h hn => by
      have e1 : L.length = k + 1 + (l.length - k) := by
       rw [HLQ.out, List.length_append, List.length_append, List.length_take, List.length_drop, Nat.min_eq_left hkl]; rfl
      have e2 : cel L = cel (l.take k) ++ [.int .i64 m.k, .string m.n, .string m.v] ++ cel (l.drop k) := by
       rw [HLQ.out, cel_append, cel_append, cel_one]
      refine OwnS.of (OwnT.more (B := W.heap.size) ?_ (Nat.le_trans hB BW.out.size)) hn
      unfold OwnT
      rw [e1, e2]
      exact h
     by_cases hck : c' = k
     ·have HCD : Hid (∀ j u, (cel (l.drop k))[j]? = some u → w2.cell? ((⟨g, 0, none⟩ : Addr).add j) = some u) := fun j u hu => by
       rw [List.drop_of_length_le (by omega)] at hu
       cases hu
      go_simp
      go_wp2_with (at_builtin; refine wpList_append_own _ rfl (.tmp 33) (.tmp 36) 22 rfl W.heap.size 25 i0 _ 3 40 Tryz.underlying22 hi hz0 hz1 hz2 rfl (by decide) v2 (k + 1) (cel (l.take k) ++ [.int .i64 m.k, .string m.n, .string m.v]) rfl O2.out ⟨g, 0, none⟩ (l.length - k) _ (cel (l.drop k)) rfl HD3.out HCD.out (cel_ones _) (by unfold maxLen; omega) (by omega) B2h.out.size ?_; intro v3 w3 o3 g3 n3; have O3 := Lib.hid (HCO.out v3 w3 o3 (fun e => N2.out (n3.1 e).1)); have B3 : Hid (Below W.heap.size W w3) := B2h.out.grown g3 B2h.out.size (fun q e => (World.ownsRow.lt O2.out q e).1); clear o3 g3 n3)
      go_ret
      exact ⟨_, rfl, O3, BW.out.trans (B3.out.mono BW.out.size)⟩
     ·have HCD : Hid (∀ j u, (cel (l.drop k))[j]? = some u → w2.cell? ((⟨g, k * 3, none⟩ : Addr).add j) = some u) := drop_cells HOD.out hkl
      go_simp
      go_wp2_with (at_builtin; refine wpList_append_own _ rfl (.tmp 33) (.tmp 36) 22 rfl W.heap.size 25 i0 _ 3 40 Tryz.underlying22 hi hz0 hz1 hz2 rfl (by decide) v2 (k + 1) (cel (l.take k) ++ [.int .i64 m.k, .string m.n, .string m.v]) rfl O2.out ⟨g, k * 3, none⟩ (l.length - k) _ (cel (l.drop k)) rfl HD3.out HCD.out (cel_ones _) (by unfold maxLen; omega) (by omega) B2h.out.size ?_; intro v3 w3 o3 g3 n3; have O3 := Lib.hid (HCO.out v3 w3 o3 (fun e => N2.out (n3.1 e).1)); have B3 : Hid (Below W.heap.size W w3) := B2h.out.grown g3 B2h.out.size (fun q e => (World.ownsRow.lt O2.out q e).1); clear o3 g3 n3)
      go_ret
      exact ⟨_, rfl, O3, BW.out.trans (B3.out.mono BW.out.size)⟩
end Go.Proofs.YtdeppcddknakjaaGreatDoor.Mx
namespace Go.Proofs.YtdeppcddknakjaaGreatDoor.Mx
open Go.RowKit
open Go.Sort (grow)
open Go.Proofs.YtdeppcddknakjaaGreatDoor.Rx (EmpP SameP PreP pfxS ChkP)
open Go.Proofs.YtdeppcddknakjaaGreatDoor.Lab (nameB getL Lb LS take_snocL)
theorem OwnS.more {w : World} {B B' : Nat} {v : Value} {l : List Mt} (h : OwnS w B v l) (hB : B' ≤ B) : OwnS w B' v l := ⟨h.1.more hB, h.2⟩
theorem OwnS.below {w w' : World} {B : Nat} {v : Value} {l : List Mt} (h : OwnS w B v l) (hb : Below w.heap.size w w') : OwnS w' B v l := ⟨h.1.below hb, h.2⟩
theorem OwnS.made (w : World) {B : Nat} (hB : B ≤ w.heap.size) : OwnS (w.alloc (.cells #[] 25)) B (.slice (some ⟨w.heap.size, 0, none⟩) 0 0) [] := ⟨World.ownsRow_made w #[] 0 hB (by unfold maxLen; omega) (by simp), _, _, rfl⟩
set_option maxHeartbeats 16000000 in
theorem refSimplify_any (l : List Mt) (hl : l.length ≤ 1000) (hz : ∀ m ∈ l, m.n.size ≤ 1000000 ∧ m.v.size ≤ 1000000) (A : Option Addr) (c : Nat) (w : World) (hA : MS w w.heap.size A l) :
  Calls Tryz.prog 27 #[.slice A l.length c] w (SimP (simO l) w) := by
 obtain ⟨i0, hi, hz0, hz1, hz2⟩ := info_parts row25
 have hsz : Sz' l := ⟨by unfold maxLen; omega, fun m hm => ⟨by have := (hz m hm).1; unfold maxLen; omega, by have := (hz m hm).2; unfold maxLen; omega⟩⟩
 have KC := Lib.hid (refCheck_any l hsz A c w hA)
 have hss : Sz' (l.map lit) := ⟨by rw [List.length_map]; unfold maxLen; omega, fun m hm => by
  obtain ⟨x, hx, rfl⟩ := List.mem_map.1 hm
  have h1 := hz x hx
  have h2 := lit_v x
  rw [lit_n]
  unfold maxLen
  omega⟩
 have hsv : ∀ m ∈ l.map lit, m.v.size ≤ 1000000 := fun m hm => by
  obtain ⟨x, hx, rfl⟩ := List.mem_map.1 hm
  have h1 := hz x hx
  have h2 := lit_v x
  omega
 have hll : (l.map lit).length = l.length := List.length_map _
 have HA := Lib.hid hA
 have HAL : Hid ((l.map lit).length ≤ 1000) := by show _ ≤ _; omega
 have HSS := Lib.hid hss
 have HSV := Lib.hid hsv
 clear hA hsz hss hsv hll hz
 by_cases hc : chkA l = 0
 ·rw [hc] at KC
  have HS : Hid (simO l = if conR (l.map lit) then none else some (keptR (l.map lit) (l.map lit).length)) := by
   show _ = _
   unfold simO
   rw [if_pos hc]
   exact simR_eq (chkA_each hc).2
  have HK : Hid (∀ m ∈ l, m.k ≤ 4) := fun m hm => (chk1_kind ((chkA_each hc).2 m hm)).2
  rw [HS.out]
  have HRN : Hid (conR (l.map lit) = true → (if conR (l.map lit) = true then none else some (keptR (l.map lit) (l.map lit).length)) = none) := fun h => if_pos h
  have HRS : Hid (conR (l.map lit) = false → (if conR (l.map lit) = true then none else some (keptR (l.map lit) (l.map lit).length)) = some (keptR (l.map lit) (l.map lit).length)) := fun h => if_neg (by rw [h]; simp)
  obtain ⟨res, hres⟩ : ∃ res, (if conR (l.map lit) = true then none else some (keptR (l.map lit) (l.map lit).length)) = res := ⟨_, rfl⟩
  rw [hres] at HRN HRS ⊢
  clear hc HS hres
  go_enter Tryz.func27, Tryz.ntmps27
  go_wp2_with fail
  refine KC.out.mono ?_
  rintro e w1 ⟨rfl, b1⟩
  have S0 : Hid (OwnS (w1.alloc (.cells #[] 25)) w.heap.size (.slice (some ⟨w1.heap.size, 0, none⟩) 0 0) []) := OwnS.made w1 b1.out.size
  have B1 : Hid (Below w.heap.size w (w1.alloc (.cells #[] 25))) := b1.out.alloc b1.out.size _
  clear b1 KC
  go_wp2_with fail
  go_loopw [4, 5] (fun vo vi wr => ∃ k : Nat, k ≤ l.length ∧ vi = .int .i64 k ∧ Hid (OwnS wr w.heap.size vo ((l.take k).map lit)) ∧ Hid (Below w.heap.size w wr)) (fun _ vi _ => l.length - (intOf vi).toNat)
  case atStart => exact ⟨0, by omega, rfl, S0, B1⟩
  case round =>
   clear S0 B1
   obtain ⟨k, hk, rfl, HO, HB⟩ := hrel
   by_cases hlt : k < l.length
   ·obtain ⟨bl, off, rfl, hbl, h1', h2', h3'⟩ := HA.out.at_ hlt
    have h1 := (HB.out.cell (p := ⟨bl, off + k * 3, none⟩) hbl).trans h1'
    have h2 := (HB.out.cell (p := ⟨bl, off + k * 3 + 1, none⟩) hbl).trans h2'
    have h3 := (HB.out.cell (p := ⟨bl, off + k * 3 + 2, none⟩) hbl).trans h3'
    clear h1' h2' h3'
    have HE : Hid ((l.take (k + 1)).map lit = (l.take k).map lit ++ [lit l[k]]) := by
     show _ = _
     rw [take_snocL l hlt, List.map_append]
     rfl
    have KL := Lib.hid (fun V => refLit_any l[k] (HK.out _ (List.getElem_mem hlt)) V)
    obtain ⟨m, hm⟩ : ∃ m, (l.take k).map lit = m := ⟨_, rfl⟩
    have hml : m.length ≤ l.length := by rw [← hm, List.length_map]; exact List.length_take_le' _ _
    rw [hm] at HO HE
    clear hm
    generalize lit l[k] = y at *
    generalize l[k] = x at *
    go_wp2_with fail
    refine (KL.out _).mono ?_
    rintro e w1 ⟨rfl, b1⟩
    have B2 : Hid (Below wr.heap.size wr (w1.alloc (.cells #[.int .i64 y.k, .string y.n, .string y.v] 25))) := b1.out.alloc b1.out.size _
    have hws : w.heap.size ≤ w1.heap.size := Nat.le_trans HB.out.size b1.out.size
    have HOT := Lib.hid HO.out.1
    have hnn : u4 ≠ .slice none 0 0 := by
     obtain ⟨g, cap, e⟩ := HO.out.2
     rw [e]
     intro e2
     cases e2
    have HNN := Lib.hid hnn
    clear HO hnn b1
    go_wp2_with (at_builtin; refine wpList_append_own _ rfl (.tmp 19) (.tmp 25) 22 rfl w.heap.size 25 i0 _ 3 40 Tryz.underlying22 hi hz0 hz1 hz2 rfl (by decide) u4 _ _ rfl (HOT.out.below B2.out) ⟨w1.heap.size, 0, none⟩ 1 1 [.int .i64 y.k, .string y.n, .string y.v] rfl rfl (three_new _ _ _ _ _ _ rfl) (by simp [Value.oneCell']) (by simp only [maxLen]; omega) (by omega) (by simp; omega) ?_; intro v5 w5 ho hg hnl; have HO' := Lib.hid ho; have HG := Lib.hid hg; have HNL := Lib.hid hnl; clear ho hg hnl)
    have B5 : Hid (Below w.heap.size w w5) := (HB.out.trans (B2.out.mono HB.out.size)).grown HG.out (by simp; omega) (fun g e => (World.ownsRow.lt HOT.out g e).1)
    have O5 : Hid (OwnS w5 w.heap.size v5 ((l.take (k + 1)).map lit)) := by
     rw [HE.out]
     exact OwnS.of (OwnT.snoc HO'.out) (fun e => HNN.out (HNL.out.1 e).1)
    go_roundw
    case rel => exact ⟨k + 1, by omega, by go_num, O5, B5⟩
    case measure => simp [intOf]; omega
   ·have O2 : Hid (OwnS wr w.heap.size u4 (l.map lit)) := by
     have h := HO.out
     rw [List.take_of_length_le (by omega)] at h
     exact h
    clear HO HK HA
    generalize l.map lit = a at *
    obtain ⟨ho, g, cap, rfl⟩ := O2.out
    obtain ⟨A', c', hA', hm⟩ := ho.form
    obtain ⟨rfl, rfl⟩ : A' = some ⟨g, 0, none⟩ ∧ c' = cap := by injection hA' with h1 h2 h3; exact ⟨h1.symm, h3.symm⟩
    have MA := Lib.hid hm
    have KN := Lib.hid (refCon_any a HSS.out HSV.out _ c' wr hm)
    clear hA' hm ho O2
    generalize conR a = cr at *
    cases cr with
    | true =>
     have HRN1 := Lib.hid (HRN.out rfl)
     clear HRN HRS
     go_wp2_with fail
     refine KN.out.mono ?_
     rintro e w2 ⟨rfl, b2⟩
     have B2 : Hid (Below w.heap.size w w2) := HB.out.trans (b2.out.mono HB.out.size)
     have O3 : Hid (OwnT (w2.alloc (.cells #[] 25)) w.heap.size (.slice (some ⟨w2.heap.size, 0, none⟩) 0 0) []) := (OwnS.made w2 B2.out.size).1
     have B3 : Hid (Below w.heap.size w (w2.alloc (.cells #[] 25))) := B2.out.alloc B2.out.size _
     clear b2 KN MA HB
     go_wp2
     go_ret2
     rw [HRN1.out]
     exact ⟨_, rfl, O3, B3⟩
    | false =>
     have HRS1 := Lib.hid (HRS.out rfl)
     clear HRN HRS
     go_wp2_with fail
     refine KN.out.mono ?_
     rintro e w2 ⟨rfl, b2⟩
     have B2 : Hid (Below w.heap.size w w2) := HB.out.trans (b2.out.mono HB.out.size)
     have M2 := Lib.hid (MA.out.up b2.out)
     have S3 : Hid (OwnS (w2.alloc (.cells #[] 25)) w2.heap.size (.slice (some ⟨w2.heap.size, 0, none⟩) 0 0) (keptR a 0)) := OwnS.made w2 (Nat.le_refl _)
     have B3 : Hid (Below w2.heap.size w2 (w2.alloc (.cells #[] 25))) := (Below.refl _ _).alloc (Nat.le_refl _) _
     clear b2 KN MA HB
     go_wp2_with fail
     go_loopw [6, 7] (fun vo vi wr => ∃ k : Nat, k ≤ a.length ∧ vi = .int .i64 k ∧ Hid (OwnS wr w2.heap.size vo (keptR a k)) ∧ Hid (Below w2.heap.size w2 wr)) (fun _ vi _ => a.length - (intOf vi).toNat)
     case atStart => exact ⟨0, by omega, rfl, S3, B3⟩
     case round =>
      clear S3 B3
      obtain ⟨k, hk, rfl, HO, HB⟩ := hrel
      by_cases hlt : k < a.length
      ·obtain ⟨bl, off, hA', hbl, h1', h2', h3'⟩ := M2.out.at_ hlt
       obtain ⟨rfl, rfl⟩ : g = bl ∧ off = 0 := by injection hA' with hA'; injection hA' with h1 h2; exact ⟨h1, h2.symm⟩
       clear hA'
       rw [Nat.zero_add] at h1' h2' h3'
       have h1 := (HB.out.cell (p := ⟨g, k * 3, none⟩) hbl).trans h1'
       have h2 := (HB.out.cell (p := ⟨g, k * 3 + 1, none⟩) hbl).trans h2'
       have h3 := (HB.out.cell (p := ⟨g, k * 3 + 2, none⟩) hbl).trans h3'
       have KD := Lib.hid (refNeed_any a HSS.out HSV.out a[k] (HSV.out _ (List.getElem_mem hlt)) _ c' wr (M2.out.up HB.out))
       have HS := Lib.hid (keptR_succ hlt)
       have hkl := keptR_len a k
       have hal := HAL.out
       obtain ⟨x, hx⟩ : ∃ x, x = a[k] := ⟨_, rfl⟩
       rw [← hx] at h1' h2' h3' h1 h2 h3 KD HS
       have KP := Lib.hid (fun v w1 (h1 : OwnS w1 w2.heap.size v (keptR a k)) (h2 : w2.heap.size ≤ w1.heap.size) => refPut_any (keptR a k) (by omega) x w2.heap.size v w1 h1 h2)
       clear hx
       generalize needR a x = nr at *
       cases nr with
       | true =>
        have HE : Hid (keptR a (k + 1) = keptR a k) := HS.out.trans (if_pos rfl)
        clear KP HS
        go_wp2_with fail
        refine KD.out.mono ?_
        rintro e w3 ⟨rfl, b3⟩
        have B4 : Hid (Below w2.heap.size w2 w3) := HB.out.trans (b3.out.mono HB.out.size)
        have O4 : Hid (OwnS w3 w2.heap.size u6 (keptR a (k + 1))) := by rw [HE.out]; exact HO.out.below b3.out
        clear b3 HO HB h1 h2 h3 h1' h2' h3'
        go_wp2
        go_roundw
        case rel => exact ⟨k + 1, by omega, by go_num, O4, B4⟩
        case measure => simp [intOf]; omega
       | false =>
        have HE : Hid (keptR a (k + 1) = putR (keptR a k) x) := HS.out.trans (if_neg (by simp))
        clear HS
        go_wp2_with fail
        refine KD.out.mono ?_
        rintro e w3 ⟨rfl, b3⟩
        have B4 : Hid (Below w2.heap.size w2 w3) := HB.out.trans (b3.out.mono HB.out.size)
        have KP3 := Lib.hid (KP.out u6 w3 (HO.out.below b3.out) B4.out.size)
        have i1 := (B4.out.cell (p := ⟨g, k * 3, none⟩) hbl).trans h1'
        have i2 := (B4.out.cell (p := ⟨g, k * 3 + 1, none⟩) hbl).trans h2'
        have i3 := (B4.out.cell (p := ⟨g, k * 3 + 2, none⟩) hbl).trans h3'
        clear b3 HO HB h1 h2 h3 h1' h2' h3' KP
        go_wp2_with fail
        refine KP3.out.mono ?_
        rintro e w4 ⟨v4, rfl, o4, b4⟩
        have B5 : Hid (Below w2.heap.size w2 w4) := B4.out.trans (b4.out.mono B4.out.size)
        have O5 : Hid (OwnS w4 w2.heap.size v4 (keptR a (k + 1))) := by rw [HE.out]; exact o4.out
        clear o4 b4 B4 KP3 i1 i2 i3
        go_wp2
        go_roundw
        case rel => exact ⟨k + 1, by omega, by go_num, O5, B5⟩
        case measure => simp [intOf]; omega
      ·obtain rfl : k = a.length := by omega
       have O4 : Hid (OwnT wr w.heap.size u6 (keptR a a.length)) := HO.out.1.more B2.out.size
       have B4 : Hid (Below w.heap.size w wr) := B2.out.trans (HB.out.mono B2.out.size)
       clear HO HB
       go_wp2
       go_ret2
       rw [HRS1.out]
       exact ⟨_, rfl, O4, B4⟩
 ·have HS : Hid (simO l = none) := if_neg hc
  have e0 := bneF hc
  have e0' : (chkA l != 0) = true := by rw [bne, e0]; rfl
  rw [HS.out]
  clear hc HS
  generalize chkA l = q at *
  go_enter Tryz.func27, Tryz.ntmps27
  go_wp2_with fail
  refine KC.out.mono ?_
  rintro e w1 ⟨rfl, b1⟩
  have O3 : Hid (OwnT (w1.alloc (.cells #[] 25)) w.heap.size (.slice (some ⟨w1.heap.size, 0, none⟩) 0 0) []) := (OwnS.made w1 b1.out.size).1
  have B3 : Hid (Below w.heap.size w (w1.alloc (.cells #[] 25))) := b1.out.alloc b1.out.size _
  go_wp2
  go_ret2
  exact ⟨_, rfl, O3, B3⟩
end Go.Proofs.YtdeppcddknakjaaGreatDoor.Mx
namespace Go.Proofs.YtdeppcddknakjaaGreatDoor.Mx
open Go.RowKit
open Go.Sort (grow)
open Go.Proofs.YtdeppcddknakjaaGreatDoor.Rx (EmpP SameP PreP pfxS ChkP)
open Go.Proofs.YtdeppcddknakjaaGreatDoor.Lab (nameB getL Lb LS take_snocL)
noncomputable def iAt (x m : Mt) : Bool := decide (x = m) || (exR x m || (decide (m.k = 2 ∧ x.k = 4 ∧ x.n = m.n) && mB x.v m.v))
theorem iAt_eq {x m : Mt} (h : x = m) : iAt x m = true := by unfold iAt; rw [decide_eq_true h]; rfl
theorem impR_def (l : List Mt) (m : Mt) : impR l m = ((match eqlR l m.n with | none => false | some v => fits m v) || l.any fun x => iAt x m) := rfl
theorem iAt_hit {l : List Mt} {m : Mt} {k : Nat} (hk : k < l.length) (h : iAt l[k] m = true) : impR l m = true := by
 rw [impR_def, List.any_eq_true.2 ⟨_, List.getElem_mem hk, h⟩, Bool.or_true]
theorem iAt_next {l : List Mt} {m : Mt} {k : Nat} (hk : k < l.length) (h : ∀ j (hj : j < l.length), j < k → iAt l[j] m = false) (h2 : iAt l[k] m = false) : ∀ j (hj : j < l.length), j < k + 1 → iAt l[j] m = false := by
 intro j hj hjk
 rcases Nat.lt_or_ge j k with h3 | h3
 ·exact h j hj h3
 ·obtain rfl : j = k := by omega
  exact h2
theorem impR_no {l : List Mt} {m : Mt} (h : (match eqlR l m.n with | none => false | some v => fits m v) = false) (h2 : ∀ j (hj : j < l.length), iAt l[j] m = false) : impR l m = false := by
 rw [impR_def, h, Bool.false_or]
 refine List.any_eq_false.2 fun x hx => ?_
 obtain ⟨j, hj, rfl⟩ := List.getElem_of_mem hx
 rw [h2 j hj]
 simp
set_option maxHeartbeats 32000000 in
theorem refImplied_any (l : List Mt) (hl : Sz' l) (hz : ∀ m ∈ l, m.v.size ≤ 1000000) (m : Mt) (hv : m.v.size ≤ 1000000) (A : Option Addr) (c : Nat) (w : World) (hA : MS w w.heap.size A l) :
  Calls Tryz.prog 60 #[.slice A l.length c, .agg #[.int .i64 m.k, .string m.n, .string m.v]] w (EmpP (impR l m) w) := by
 have hlm := hl.len
 obtain ⟨W, hW⟩ : ∃ W, W = w.alloc (.cells #[.int .i64 m.k, .string m.n, .string m.v] 25) := ⟨_, rfl⟩
 have BW : Hid (Below w.heap.size w W) := by rw [hW]; exact (Below.refl _ _).alloc (Nat.le_refl _) _
 have hbk : W.heap[w.heap.size]? = some (.cells #[.int .i64 m.k, .string m.n, .string m.v] 25 (0, 0)) := by rw [hW]; exact heap_alloc_new w _
 have hlt0 : w.heap.size < W.heap.size := by rw [hW]; simp
 have KE := Lib.hid (refEqual_any l hlm m.n A c W (hA.up BW.out))
 unfold maxLen at hlm
 have HA := Lib.hid (hA.up BW.out)
 have HBK := Lib.hid (cell3 hbk)
 have HZ := Lib.hid hz
 obtain ⟨c0, c1, c2⟩ := cell3 hbk
 have mixed : Tryz.prog.follows .mixedOrders = true := by kernel_rfl
 have HW := Lib.hid hW
 clear hbk hW hA hz
 obtain ⟨r, hr⟩ : ∃ r, eqlR l m.n = r := ⟨_, rfl⟩
 rw [hr] at KE
 have KF := Lib.hid (fun v (h : r = some v) w => refFits_any m v (by
  obtain ⟨x, hx, _, _, e⟩ := eqlR_some (hr.trans h)
  rw [← e]; exact HZ.out x hx) w)
 obtain ⟨b0, hb0⟩ : ∃ b0, b0 = (match r with | none => false | some v => fits m v) := ⟨_, rfl⟩
 have HB0 := Lib.hid hb0
 have HRQ := Lib.hid hr
 unfold EqlP at KE
 obtain ⟨rs, hrs⟩ : ∃ rs, rs = r.isSome := ⟨_, rfl⟩
 obtain ⟨rd, hrd⟩ : ∃ rd, rd = r.getD ⟨#[]⟩ := ⟨_, rfl⟩
 rw [← hrs, ← hrd] at KE
 clear hb0 hr
 go_enter Tryz.func60, Tryz.ntmps60
 go_upto_region 2 with (go_at_call 87; (rw [← HW.out]); (with_reducible refine KE.out.mono ?_); rintro e w1 ⟨rfl, rfl⟩)
 go_cut [20] (fun c wx => c = .bool b0 ∧ Hid (Below W.heap.size W wx))
 case first =>
  cases r with
  | none =>
   subst hrs hrd
   have HE := Lib.hid HB0.out
   go_wp2_with fail
   go_meet
   case rel => exact ⟨by rw [HE.out], Below.refl _ _⟩
  | some v =>
   subst hrs hrd
   have HE := Lib.hid HB0.out
   have KF1 := Lib.hid (KF.out _ rfl)
   go_wp2_with fail
   refine (KF1.out _).mono ?_
   rintro e w2 ⟨rfl, b2⟩
   go_wp2_with fail
   go_meet
   case rel => exact ⟨by rw [HE.out], b2⟩
 case rest =>
  obtain ⟨rfl, b2⟩ := hcut
  clear KE KF hrs hrd HW c0 c1 c2
  cases b0 with
  | true =>
   have HE : Hid (impR l m = true) := by
    show _ = _
    rw [impR_def, HRQ.out]
    have h := HB0.out.symm
    rw [h]
    rfl
   go_wp2
   go_ret
   exact ⟨okE HE.out.symm, BW.out.trans (b2.out.mono BW.out.size)⟩
  | false =>
   have HQ0 : Hid ((match eqlR l m.n with | none => false | some v => fits m v) = false) := by
    show _ = _
    rw [HRQ.out]
    exact HB0.out.symm
   clear HB0 HRQ
   go_wp2_with fail
   go_loopw [7] (fun q wr => ∃ k : Nat, k ≤ l.length ∧ q = .int .i64 k ∧ Hid (∀ j (hj : j < l.length), j < k → iAt l[j] m = false) ∧ Hid (Below W.heap.size W wr)) (fun q _ => l.length - (intOf q).toNat)
   case atStart => exact ⟨0, by omega, rfl, fun j _ h => by omega, b2⟩
   case round =>
    clear b2
    obtain ⟨k, hk, rfl, H, HB⟩ := hrel
    by_cases hlt : k < l.length
    ·obtain ⟨b, off, rfl, hb, h1', h2', h3'⟩ := HA.out.at_ hlt
     have q1 := cell_regrown ((HB.out.cell (p := ⟨b, off + k * 3, none⟩) hb).trans h1')
     have q2 := cell_regrown ((HB.out.cell (p := ⟨b, off + k * 3 + 1, none⟩) hb).trans h2')
     have q3 := cell_regrown ((HB.out.cell (p := ⟨b, off + k * 3 + 2, none⟩) hb).trans h3')
     have m1 := cell_regrown ((HB.out.cell (p := ⟨w.heap.size, 0, none⟩) hlt0).trans HBK.out.1)
     have m2 := cell_regrown ((HB.out.cell (p := ⟨w.heap.size, 1, none⟩) hlt0).trans HBK.out.2.1)
     have m3 := cell_regrown ((HB.out.cell (p := ⟨w.heap.size, 2, none⟩) hlt0).trans HBK.out.2.2)
     have heq := fun w => eql_mt l[k] m w
     have KX := Lib.hid (fun w => refExcl_any l[k] m (HZ.out _ (List.getElem_mem hlt)) hv w)
     have KM := Lib.hid (fun w => refM_is l[k].v m.v hv w)
     have HN := Lib.hid (fun h => iAt_next hlt H.out h)
     have HT := Lib.hid (fun h => iAt_hit (l := l) (m := m) hlt h)
     obtain ⟨bi, hbi⟩ : ∃ bi, bi = iAt l[k] m := ⟨_, rfl⟩
     have HBI := Lib.hid hbi
     rw [← hbi] at HN HT
     clear h1' h2' h3' H hbi
     generalize l[k] = x at *
     obtain ⟨xk, xn, xv⟩ := x
     dsimp only at q1 q2 q3 heq KX KM
     go_upto_region 7 with fail
     go_cut [73] (fun c wx => c = .bool bi ∧ Hid (Below W.heap.size W wx))
     case first =>
      by_cases he : (⟨xk, xn, xv⟩ : Mt) = m
      ·simp only [decide_eq_true he] at heq
       have HE : Hid (bi = true) := HBI.out.trans (iAt_eq he)
       clear he KX KM
       refine wp_region_quiet_below (by assumption) (by kernel_rfl) ?_
       repeat (first | go_big_quiet_step (fail) | quiet_step (fail))
       refine wpQuiet_nil ?_
       intro _ hw'
       obtain ⟨⟨dq, osq⟩, hw''⟩ := hw'
       subst hw''
       have HR : Hid (Below W.heap.size W (grow (redrawn wr dq) osq)) := HB.out.trans ((below_regrown wr dq osq).mono HB.out.size)
       generalize grow (redrawn wr dq) osq = WZ at *
       go_wp2_with fail
       go_meet
       case rel => exact ⟨by rw [HE.out], HR⟩
      ·simp only [decide_eq_false he] at heq
       obtain ⟨ex, hx⟩ : ∃ ex, exR ⟨xk, xn, xv⟩ m = ex := ⟨_, rfl⟩
       rw [hx] at KX
       have GA : Hid (∀ dd os, Calls Tryz.prog 89 #[.agg #[.int .i64 xk, .string xn, .string xv], .agg #[.int .i64 m.k, .string m.n, .string m.v]] (grow (redrawn wr dd) os) fun e w' => e = .returned (.bool ex) ∧ Below (grow (redrawn wr dd) os).heap.size (grow (redrawn wr dd) os) w') := fun dd os => below_of (KX.out _)
       have HQ : Hid (bi = (ex || (decide (m.k = 2 ∧ xk = 4 ∧ xn = m.n) && mB xv m.v))) := by
        show _ = _
        rw [HBI.out]
        unfold iAt
        rw [decide_eq_false he, hx]
        rfl
       clear he hx KX
       cases ex with
       | true =>
        have HE : Hid (bi = true) := HQ.out
        clear HQ KM
        refine wp_region_quiet_below (by assumption) (by kernel_rfl) ?_
        repeat (first | go_big_quiet_step (exact Calls.regrown_of (GA.out _ _)) | quiet_step (exact Calls.regrown_of (GA.out _ _)))
        refine wpQuiet_nil ?_
        intro _ hw'
        obtain ⟨⟨dq, osq⟩, hw''⟩ := hw'
        subst hw''
        have HR : Hid (Below W.heap.size W (grow (redrawn wr dq) osq)) := HB.out.trans ((below_regrown wr dq osq).mono HB.out.size)
        generalize grow (redrawn wr dq) osq = WZ at *
        go_wp2_with fail
        go_meet
        case rel => exact ⟨by rw [HE.out], HR⟩
       | false =>
        by_cases g1 : m.k = 2
        ·have f1 := bneT g1
         by_cases g2 : xk = 4
         ·have f2 := bneT g2
          by_cases g3 : xn = m.n
          ·have f3 := strT g3
           have HE : Hid (bi = mB xv m.v) := by
            show _ = _
            rw [HQ.out, decide_eq_true ⟨g1, g2, g3⟩]
            rfl
           rw [← HE.out] at KM
           have GB : Hid (∀ dd os, Calls Tryz.prog 74 #[.string xv, .string m.v] (grow (redrawn wr dd) os) fun e w' => e = .returned (.bool bi) ∧ Below (grow (redrawn wr dd) os).heap.size (grow (redrawn wr dd) os) w') := fun dd os => below_of (KM.out _)
           clear KM HQ g1 g2 g3 HE HBI
           refine wp_region_quiet_below (by assumption) (by kernel_rfl) ?_
           repeat (first | go_big_quiet_step (first | exact Calls.regrown_of (GA.out _ _) | exact Calls.regrown_of (GB.out _ _)) | quiet_step (first | exact Calls.regrown_of (GA.out _ _) | exact Calls.regrown_of (GB.out _ _)))
           refine wpQuiet_nil ?_
           intro _ hw'
           obtain ⟨⟨dq, osq⟩, hw''⟩ := hw'
           subst hw''
           have HR : Hid (Below W.heap.size W (grow (redrawn wr dq) osq)) := HB.out.trans ((below_regrown wr dq osq).mono HB.out.size)
           generalize grow (redrawn wr dq) osq = WZ at *
           go_wp2_with fail
           go_meet
           case rel => exact ⟨rfl, HR⟩
          ·have f3 := strF g3
           have HE : Hid (bi = false) := by
            show _ = _
            rw [HQ.out, decide_eq_false (fun h => g3 h.2.2)]
            rfl
           clear KM HQ g1 g2 g3
           refine wp_region_quiet_below (by assumption) (by kernel_rfl) ?_
           repeat (first | go_big_quiet_step (exact Calls.regrown_of (GA.out _ _)) | quiet_step (exact Calls.regrown_of (GA.out _ _)))
           refine wpQuiet_nil ?_
           intro _ hw'
           obtain ⟨⟨dq, osq⟩, hw''⟩ := hw'
           subst hw''
           have HR : Hid (Below W.heap.size W (grow (redrawn wr dq) osq)) := HB.out.trans ((below_regrown wr dq osq).mono HB.out.size)
           generalize grow (redrawn wr dq) osq = WZ at *
           go_wp2_with fail
           go_meet
           case rel => exact ⟨by rw [HE.out], HR⟩
         ·have f2 := bneF g2
          have HE : Hid (bi = false) := by
           show _ = _
           rw [HQ.out, decide_eq_false (fun h => g2 h.2.1)]
           rfl
          clear KM HQ g1 g2
          refine wp_region_quiet_below (by assumption) (by kernel_rfl) ?_
          repeat (first | go_big_quiet_step (exact Calls.regrown_of (GA.out _ _)) | quiet_step (exact Calls.regrown_of (GA.out _ _)))
          refine wpQuiet_nil ?_
          intro _ hw'
          obtain ⟨⟨dq, osq⟩, hw''⟩ := hw'
          subst hw''
          have HR : Hid (Below W.heap.size W (grow (redrawn wr dq) osq)) := HB.out.trans ((below_regrown wr dq osq).mono HB.out.size)
          generalize grow (redrawn wr dq) osq = WZ at *
          go_wp2_with fail
          go_meet
          case rel => exact ⟨by rw [HE.out], HR⟩
        ·have f1 := bneF g1
         have HE : Hid (bi = false) := by
          show _ = _
          rw [HQ.out, decide_eq_false (fun h => g1 h.1)]
          rfl
         clear KM HQ g1
         refine wp_region_quiet_below (by assumption) (by kernel_rfl) ?_
         repeat (first | go_big_quiet_step (exact Calls.regrown_of (GA.out _ _)) | quiet_step (exact Calls.regrown_of (GA.out _ _)))
         refine wpQuiet_nil ?_
         intro _ hw'
         obtain ⟨⟨dq, osq⟩, hw''⟩ := hw'
         subst hw''
         have HR : Hid (Below W.heap.size W (grow (redrawn wr dq) osq)) := HB.out.trans ((below_regrown wr dq osq).mono HB.out.size)
         generalize grow (redrawn wr dq) osq = WZ at *
         go_wp2_with fail
         go_meet
         case rel => exact ⟨by rw [HE.out], HR⟩
     case rest =>
      obtain ⟨rfl, HR⟩ := hcut
      clear q1 q2 q3 m1 m2 m3 heq KX KM HBI
      cases bi with
      | true =>
       have HE := Lib.hid (HT.out rfl)
       clear HN HT
       go_wp2
       go_ret
       exact ⟨okE HE.out.symm, BW.out.trans (HR.out.mono BW.out.size)⟩
      | false =>
       have HE := Lib.hid (HN.out rfl)
       clear HN HT
       go_wp2
       go_roundw
       case rel => exact ⟨k + 1, by omega, by go_num, HE, HR⟩
       case measure => simp [intOf]; omega
    ·have HE : Hid (impR l m = false) := impR_no HQ0.out fun j hj => H.out j hj (by omega)
     clear H
     go_wp2
     go_ret
     exact ⟨okE HE.out.symm, BW.out.trans (HB.out.mono BW.out.size)⟩
set_option maxHeartbeats 16000000 in
theorem refImplies_any (a b : List Mt) (ha : Sg a) (hb : Sg b) (A D : Option Addr) (c d : Nat) (w : World) (hA : MS w w.heap.size A a) (hD : MS w w.heap.size D b) :
  Calls Tryz.prog 29 #[.slice A a.length c, .slice D b.length d] w (EmpP (impO a b) w) := by
 have KC := Lib.hid (refCheck_any a ha.sz A c w hA)
 have KD := Lib.hid (fun w1 (h : Below w.heap.size w w1) => refCheck_any b hb.sz D d w1 (hD.up h))
 have KA := Lib.hid (fun w1 (h : Below w.heap.size w w1) => refSimplify_any a (by have := ha.len; omega) (fun m hm => ⟨by have := ha.n m hm; omega, by have := ha.v m hm; omega⟩) A c w1 (hA.up h))
 have KB := Lib.hid (fun w1 (h : Below w.heap.size w w1) => refSimplify_any b (by have := hb.len; omega) (fun m hm => ⟨by have := hb.n m hm; omega, by have := hb.v m hm; omega⟩) D d w1 (hD.up h))
 clear hA hD
 by_cases hc : chkA a = 0
 ·rw [hc] at KC
  by_cases hd : chkA b = 0
  ·rw [hd] at KD
   have i1 : Hid (impO a b = impA a b) := by
    show _ = _
    unfold impO; rw [decide_eq_true hc, decide_eq_true hd, Bool.true_and, Bool.true_and]
   have sa : simO a = simA a := if_pos hc
   have sb : simO b = simA b := if_pos hd
   have va : Val a := (chkA_each hc).2
   have vb : Val b := (chkA_each hd).2
   rw [sa] at KA
   rw [sb] at KB
   rw [i1.out]
   clear i1 sa sb hc hd
   cases hx : simA a with
   | none =>
    have HE : Hid (impA a b = true) := by
     show _ = _
     unfold impA; rw [hx]
    rw [hx] at KA
    rw [HE.out]
    clear hx HE va vb KB
    go_enter Tryz.func29, Tryz.ntmps29
    go_wp2_with fail
    refine KC.out.mono ?_
    rintro e w1 ⟨rfl, b1⟩
    have KD1 := Lib.hid (KD.out w1 b1.out)
    clear KC KD
    go_wp2_with fail
    refine KD1.out.mono ?_
    rintro e w2 ⟨rfl, b2⟩
    have B2 : Hid (Below w.heap.size w w2) := b1.out.trans (b2.out.mono b1.out.size)
    have KA1 := Lib.hid (KA.out w2 B2.out)
    clear KD1 b1 b2 KA
    go_wp2_with fail
    refine KA1.out.mono ?_
    rintro e w3 ⟨v3, rfl, o3, b3⟩
    have B3 : Hid (Below w.heap.size w w3) := B2.out.trans (b3.out.mono B2.out.size)
    clear KA1 o3 b3 B2
    go_wp2
    go_ret
    exact ⟨rfl, B3⟩
   | some x =>
    rw [hx] at KA
    have sx := ha.sim hx
    cases hy : simA b with
    | none =>
     have HE : Hid (impA a b = false) := by
      show _ = _
      unfold impA; rw [hx, hy]
     rw [hy] at KB
     rw [HE.out]
     clear hx hy HE va vb
     go_enter Tryz.func29, Tryz.ntmps29
     go_wp2_with fail
     refine KC.out.mono ?_
     rintro e w1 ⟨rfl, b1⟩
     have KD1 := Lib.hid (KD.out w1 b1.out)
     clear KC KD
     go_wp2_with fail
     refine KD1.out.mono ?_
     rintro e w2 ⟨rfl, b2⟩
     have B2 : Hid (Below w.heap.size w w2) := b1.out.trans (b2.out.mono b1.out.size)
     have KA1 := Lib.hid (KA.out w2 B2.out)
     clear KD1 b1 b2 KA
     go_wp2_with fail
     refine KA1.out.mono ?_
     rintro e w3 ⟨v3, rfl, o3, b3⟩
     have B3 : Hid (Below w.heap.size w w3) := B2.out.trans (b3.out.mono B2.out.size)
     have KB1 := Lib.hid (KB.out w3 B3.out)
     clear KA1 o3 b3 B2 KB
     go_wp2_with fail
     refine KB1.out.mono ?_
     rintro e w4 ⟨v4, rfl, o4, b4⟩
     have B4 : Hid (Below w.heap.size w w4) := B3.out.trans (b4.out.mono B3.out.size)
     clear KB1 o4 b4 B3
     go_wp2
     go_ret
     exact ⟨rfl, B4⟩
    | some y =>
     rw [hy] at KB
     have sy := hb.sim hy
     have HI : Hid (impA a b = y.all (impR x)) := by
      show _ = _
      unfold impA; rw [hx, hy]
      show y.all (impl x) = _
      rw [Bool.eq_iff_iff, List.all_eq_true, List.all_eq_true]
      exact ⟨fun h m hm => by rw [impR_eq va vb hx hy hm]; exact h m hm, fun h m hm => by rw [← impR_eq va vb hx hy hm]; exact h m hm⟩
     have HF : Hid (∀ k (hk : k < y.length), impR x y[k] = false → y.all (impR x) = false) := fun k hk h => List.all_eq_false.2 ⟨_, List.getElem_mem hk, by rw [h]; simp⟩
     have HT : Hid ((∀ j (hj : j < y.length), impR x y[j] = true) → y.all (impR x) = true) := fun h => List.all_eq_true.2 fun m hm => by
      obtain ⟨j, hj, rfl⟩ := List.getElem_of_mem hm
      exact h j hj
     have KI := Lib.hid (fun k (hk : k < y.length) A c w1 (hm : MS w1 w1.heap.size A x) => refImplied_any x sx.sz (fun m hm => by have := sx.v m hm; omega) y[k] (by have := sy.v _ (List.getElem_mem hk); omega) A c w1 hm)
     have hyl : y.length ≤ 300 := sy.len
     rw [HI.out]
     clear hx hy HI va vb sx sy
     obtain ⟨r, hr⟩ : ∃ r, r = y.all (impR x) := ⟨_, rfl⟩
     rw [← hr] at HF HT ⊢
     clear hr
     go_enter Tryz.func29, Tryz.ntmps29
     go_wp2_with fail
     refine KC.out.mono ?_
     rintro e w1 ⟨rfl, b1⟩
     have KD1 := Lib.hid (KD.out w1 b1.out)
     clear KC KD
     go_wp2_with fail
     refine KD1.out.mono ?_
     rintro e w2 ⟨rfl, b2⟩
     have B2 : Hid (Below w.heap.size w w2) := b1.out.trans (b2.out.mono b1.out.size)
     have KA1 := Lib.hid (KA.out w2 B2.out)
     clear KD1 b1 b2 KA
     go_wp2_with fail
     refine KA1.out.mono ?_
     rintro e w3 ⟨v3, rfl, o3, b3⟩
     have B3 : Hid (Below w.heap.size w w3) := B2.out.trans (b3.out.mono B2.out.size)
     have KB1 := Lib.hid (KB.out w3 B3.out)
     obtain ⟨A3, c3, rfl, m3⟩ := o3.out.form
     have M3 : Hid (MS w3 w3.heap.size A3 x) := m3
     clear KA1 o3 b3 B2 KB m3
     go_wp2_with fail
     refine KB1.out.mono ?_
     rintro e w4 ⟨v4, rfl, o4, b4⟩
     have B4 : Hid (Below w.heap.size w w4) := B3.out.trans (b4.out.mono B3.out.size)
     have M3' := Lib.hid (M3.out.up b4.out)
     obtain ⟨A4, c4, rfl, m4⟩ := o4.out.form
     have M4 : Hid (MS w4 w4.heap.size A4 y) := m4
     clear KB1 o4 b4 B3 M3 m4
     go_wp2_with fail
     go_loopw [8] (fun q wr => ∃ k : Nat, k ≤ y.length ∧ q = .int .i64 k ∧ Hid (∀ j (hj : j < y.length), j < k → impR x y[j] = true) ∧ Hid (Below w4.heap.size w4 wr)) (fun q _ => y.length - (intOf q).toNat)
     case atStart => exact ⟨0, by omega, rfl, fun j _ h => by omega, Below.refl _ _⟩
     case round =>
      obtain ⟨k, hk, rfl, H, HB⟩ := hrel
      by_cases hlt : k < y.length
      ·obtain ⟨bl, off, rfl, hbl, h1', h2', h3'⟩ := M4.out.at_ hlt
       have h1 := (HB.out.cell (p := ⟨bl, off + k * 3, none⟩) hbl).trans h1'
       have h2 := (HB.out.cell (p := ⟨bl, off + k * 3 + 1, none⟩) hbl).trans h2'
       have h3 := (HB.out.cell (p := ⟨bl, off + k * 3 + 2, none⟩) hbl).trans h3'
       have KI1 := Lib.hid (KI.out k hlt A3 c3 wr (M3'.out.up HB.out))
       have HF1 := Lib.hid (HF.out k hlt)
       have HN : Hid (impR x y[k] = true → ∀ j (hj : j < y.length), j < k + 1 → impR x y[j] = true) := fun h j hj hjk => by
        rcases Nat.lt_or_ge j k with h3 | h3
        ·exact H.out j hj h3
        ·obtain rfl : j = k := by omega
         exact h
       clear h1' h2' h3' H
       obtain ⟨ym, hym⟩ : ∃ ym, ym = y[k] := ⟨_, rfl⟩
       rw [← hym] at h1 h2 h3 KI1 HF1 HN
       clear hym
       generalize impR x ym = rb at *
       cases rb with
       | true =>
        have HE := Lib.hid (HN.out rfl)
        clear HN HF1
        go_wp2_with fail
        refine KI1.out.mono ?_
        rintro e w5 ⟨rfl, b5⟩
        have HR : Hid (Below w4.heap.size w4 w5) := HB.out.trans (b5.out.mono HB.out.size)
        clear b5 HB
        go_wp2
        go_roundw
        case rel => exact ⟨k + 1, by omega, by go_num, HE, HR⟩
        case measure => simp [intOf]; omega
       | false =>
        have HE := Lib.hid (HF1.out rfl)
        clear HN HF1
        go_wp2_with fail
        refine KI1.out.mono ?_
        rintro e w5 ⟨rfl, b5⟩
        have HR : Hid (Below w.heap.size w w5) := B4.out.trans ((HB.out.trans (b5.out.mono HB.out.size)).mono B4.out.size)
        clear b5 HB
        go_wp2
        go_ret
        exact ⟨okE HE.out.symm, HR⟩
      ·have HE : Hid (r = true) := HT.out fun j hj => H.out j hj (by omega)
       have HR : Hid (Below w.heap.size w wr) := B4.out.trans (HB.out.mono B4.out.size)
       clear H
       go_wp2
       go_ret
       exact ⟨okE HE.out.symm, HR⟩
  ·have HE : Hid (impO a b = false) := by
    show _ = _
    unfold impO; rw [decide_eq_false hd]; simp
   have e0 := bneF hd
   have e0' := bnT hd
   rw [HE.out]
   clear HE hc hd KA KB
   generalize chkA b = q at *
   go_enter Tryz.func29, Tryz.ntmps29
   go_wp2_with fail
   refine KC.out.mono ?_
   rintro e w1 ⟨rfl, b1⟩
   have KD1 := Lib.hid (KD.out w1 b1.out)
   clear KC KD
   go_wp2_with fail
   refine KD1.out.mono ?_
   rintro e w2 ⟨rfl, b2⟩
   go_wp2
   go_ret
   exact ⟨rfl, b1.out.trans (b2.out.mono b1.out.size)⟩
 ·have HE : Hid (impO a b = false) := by
   show _ = _
   unfold impO; rw [decide_eq_false hc]; rfl
  have e0 := bneF hc
  have e0' := bnT hc
  rw [HE.out]
  clear HE hc KA KB KD
  generalize chkA a = q at *
  go_enter Tryz.func29, Tryz.ntmps29
  go_wp2_with fail
  refine KC.out.mono ?_
  rintro e w1 ⟨rfl, b1⟩
  go_wp2
  go_ret
  exact ⟨rfl, b1⟩
end Go.Proofs.YtdeppcddknakjaaGreatDoor.Mx
