
/- Layer 7: slices of matchers that a call makes; literals. Layer 7: the map of the matchers of each name. Layer 7: what a set ensures, contradicts, replaces, refuses. Layer 7: slices.Index, slices.Contains at matchers; what a set implies. -/
import Derived.Test.YtdeppcddknakjaaGreatDoorCXa
import Derived.Maps.OwnRows
import Derived.Maps.OwnSet
import Derived.Maps.Views
import Derived.Deep.AppendLies
import Derived.Deep.RegionLaw
set_option maxRecDepth 100000
set_option linter.unusedVariables false
set_option linter.unusedSimpArgs false
namespace Go.Proofs.YtdeppcddknakjaaGreatDoor.Mx
open Go.RowKit
open Go.Proofs.YtdeppcddknakjaaGreatDoor.Rx (EmpP SameP PreP MatP MatS ChkP pfxS pre check match_any check_any prefix_any empty_any hasPrefix_any emptyS)
open Go.Proofs.YtdeppcddknakjaaGreatDoor.Lab (nameB getL Lb LS take_snocL)
theorem row25 : (Tryz.prog.info? 25).map (fun i => (i.zero, i.size, i.bytes)) = some (some (.agg #[.int .i64 0, .string ⟨#[]⟩, .string ⟨#[]⟩]), 3, 40) := by kernel_rfl
/-- The cells of a list of matchers. -/
def cel (l : List Mt) : List Value := l.flatMap fun m => [.int .i64 m.k, .string m.n, .string m.v]
theorem cel_append (a b : List Mt) : cel (a ++ b) = cel a ++ cel b := by simp [cel]
theorem cel_one (m : Mt) : cel [m] = [.int .i64 m.k, .string m.n, .string m.v] := by simp [cel]
theorem cel_cons (m : Mt) (l : List Mt) : cel (m :: l) = .int .i64 m.k :: .string m.n :: .string m.v :: cel l := by
 rw [show m :: l = [m] ++ l from rfl, cel_append, cel_one]; rfl
theorem cel_length : ∀ l : List Mt, (cel l).length = l.length * 3
 | [] => rfl
 | m :: r => by
  rw [cel_cons]
  simp only [List.length_cons, cel_length r]
  omega
theorem cel_at : ∀ (l : List Mt) (j : Nat) (hj : j < l.length), (cel l)[j * 3]? = some (.int .i64 l[j].k) ∧ (cel l)[j * 3 + 1]? = some (.string l[j].n) ∧ (cel l)[j * 3 + 2]? = some (.string l[j].v)
 | [], j, hj => by simp at hj
 | m :: r, 0, _ => by
  rw [cel_cons]
  exact ⟨rfl, rfl, rfl⟩
 | m :: r, j + 1, hj => by
  have h := cel_at r j (by simpa using hj)
  have e1 : (j + 1) * 3 = j * 3 + 1 + 1 + 1 := by omega
  rw [cel_cons, e1]
  exact h
theorem cel_ones (l : List Mt) : ∀ u ∈ cel l, u.oneCell' = true := by
 intro u hu
 simp only [cel, List.mem_flatMap, List.mem_cons, List.not_mem_nil, or_false] at hu
 obtain ⟨x, _, rfl | rfl | rfl⟩ := hu <;> rfl
/-- v owns the matchers l. -/
def OwnT (w : World) (B : Nat) (v : Value) (l : List Mt) : Prop := w.ownsRow B 25 3 v l.length (cel l)
theorem OwnT.form {w : World} {B : Nat} {v : Value} {l : List Mt} (h : OwnT w B v l) : ∃ A c, v = .slice A l.length c ∧ MS w w.heap.size A l := by
 rcases h.2 with ⟨rfl, h0⟩ | ⟨g, cap, cur, rfl, hr⟩
 ·refine ⟨none, 0, by rw [h0], fun hne => absurd (List.length_eq_zero_iff.1 h0) hne⟩
 ·refine ⟨_, _, rfl, fun hne => ⟨g, 0, rfl, (World.ownsRow.lt h g rfl).2, fun j hj => ?_⟩⟩
  have hc := World.ownsRow.cells (g := g) h rfl
  have h1 := hc (j * 3) _ (cel_at l j hj).1
  have h2 := hc (j * 3 + 1) _ (cel_at l j hj).2.1
  have h3 := hc (j * 3 + 2) _ (cel_at l j hj).2.2
  have e : ∀ i, (⟨g, 0, none⟩ : Addr).add i = ⟨g, 0 + i, none⟩ := fun i => by cases i <;> simp [Addr.add]
  rw [e] at h1 h2 h3
  exact ⟨h1, h2, h3⟩
theorem OwnT.below {w w' : World} {B : Nat} {v : Value} {l : List Mt} (h : OwnT w B v l) (hb : Below w.heap.size w w') : OwnT w' B v l := by
 refine ⟨h.1, ?_⟩
 rcases h.2 with h0 | ⟨g, cap, cur, e, h1, h2, h3⟩
 ·exact .inl h0
 ·exact .inr ⟨g, cap, cur, e, h1, (hb.block g (by have := (World.ownsRow.lt h g (by rw [e]; rfl)).2; omega)).trans h2, h3⟩
theorem OwnT.more {w : World} {B B' : Nat} {v : Value} {l : List Mt} (h : OwnT w B v l) (hB : B' ≤ B) : OwnT w B' v l := by
 refine ⟨h.1, ?_⟩
 rcases h.2 with h0 | ⟨g, cap, cur, e, h1, h3⟩
 ·exact .inl h0
 ·exact .inr ⟨g, cap, cur, e, by omega, h3⟩
theorem OwnT.nil (w : World) (B : Nat) : OwnT w B (.slice none 0 0) [] := World.ownsRow_nil _ _ _ _
theorem OwnT.snoc {w : World} {B : Nat} {v : Value} {l : List Mt} {m : Mt} (h : w.ownsRow B 25 3 v (l.length + 1) (cel l ++ [.int .i64 m.k, .string m.n, .string m.v])) : OwnT w B v (l ++ [m]) := by
 unfold OwnT
 rw [List.length_append, cel_append, cel_one]
 exact h
/-- What a call hands back that makes the matchers l. -/
def OwnP (l : List Mt) (w : World) (e : Ending) (w' : World) : Prop := ∃ v, e = .returned v ∧ Hid (OwnT w' w.heap.size v l) ∧ Hid (Below w.heap.size w w')
theorem three_new (V : World) (x y z : Value) (t : TypeId) (g : Nat) (h : V.heap.size = g) : ∀ j u, [x, y, z][j]? = some u → (V.alloc (.cells #[x, y, z] t)).cell? ((⟨g, 0, none⟩ : Addr).add j) = some u := by
 subst h
 have h := cell3 (heap_alloc_new V (.cells #[x, y, z] t))
 intro j u hu
 match j, hu with
 | 0, hu => cases hu; exact h.1
 | 1, hu => cases hu; exact h.2.1
 | 2, hu => cases hu; exact h.2.2
set_option maxHeartbeats 4000000 in
theorem literals_any (l : List Mt) (hl : l.length ≤ 1000000) (hz : ∀ m ∈ l, m.v.size ≤ maxLen) (A : Option Addr) (c : Nat) (w : World) (hA : MS w w.heap.size A l) :
  Calls Tryz.prog 47 #[.slice A l.length c] w (OwnP (l.map lit) w) := by
 have HA := Lib.hid hA
 have HZ := Lib.hid hz
 clear hA hz
 obtain ⟨i0, hi, hz0, hz1, hz2⟩ := info_parts row25
 go_enter Tryz.func47, Tryz.ntmps47
 go_wp2
 go_loopw [3, 8] (fun vo vi wr => ∃ k : Nat, k ≤ l.length ∧ vi = .int .i64 k ∧ Hid (OwnT wr w.heap.size vo ((l.take k).map lit)) ∧ Hid (Below w.heap.size w wr)) (fun _ vi _ => l.length - (intOf vi).toNat)
 case atStart => exact ⟨0, by omega, rfl, OwnT.nil _ _, Below.refl _ _⟩
 case round =>
  obtain ⟨k, hk, rfl, HO, HB⟩ := hrel
  by_cases hlt : k < l.length
  ·obtain ⟨bl, off, rfl, hbl, h1', h2', h3'⟩ := HA.out.at_ hlt
   have h1 := (HB.out.cell (p := ⟨bl, off + k * 3, none⟩) hbl).trans h1'
   have h2 := (HB.out.cell (p := ⟨bl, off + k * 3 + 1, none⟩) hbl).trans h2'
   have h3 := (HB.out.cell (p := ⟨bl, off + k * 3 + 2, none⟩) hbl).trans h3'
   clear h1' h2' h3'
   have HE : Hid ((l.take (k + 1)).map lit = (l.take k).map lit ++ [lit l[k]]) := by
    show _ = _
    rw [take_snocL l hlt, List.map_append]
    rfl
   have KL := Lib.hid (fun V => lit_any l[k] (HZ.out _ (List.getElem_mem hlt)) V)
   obtain ⟨m, hm⟩ : ∃ m, (l.take k).map lit = m := ⟨_, rfl⟩
   have hml : m.length ≤ l.length := by rw [← hm, List.length_map]; exact List.length_take_le' _ _
   rw [hm] at HO HE
   clear hm
   generalize lit l[k] = y at *
   generalize l[k] = x at *
   have W1 : Hid (Below wr.heap.size wr (wr.alloc (.cells #[.int .i64 x.k, .string x.n, .string x.v] 25))) := (Below.refl _ _).alloc (Nat.le_refl _) _
   go_wp2_with fail
   refine (KL.out _).mono ?_
   rintro e w1 ⟨rfl, b1⟩
   have B1 : Hid (Below wr.heap.size wr w1) := W1.out.trans (b1.out.mono W1.out.size)
   have B2 : Hid (Below wr.heap.size wr (w1.alloc (.cells #[.int .i64 y.k, .string y.n, .string y.v] 25))) := B1.out.alloc B1.out.size _
   have hws : w.heap.size ≤ w1.heap.size := Nat.le_trans HB.out.size B1.out.size
   go_wp2_with (at_builtin; refine wpList_append_own _ rfl (.tmp 12) (.tmp 15) 22 rfl w.heap.size 25 i0 _ 3 40 Tryz.underlying22 hi hz0 hz1 hz2 rfl (by decide) _ _ _ rfl (HO.out.below B2.out) ⟨w1.heap.size, 0, none⟩ 1 1 [.int .i64 y.k, .string y.n, .string y.v] rfl rfl (three_new _ _ _ _ _ _ rfl) (by simp [Value.oneCell']) (by simp only [maxLen]; omega) (by omega) (by simp; omega) ?_; intro v5 w5 ho hg _; have HO' := Lib.hid ho; have HG := Lib.hid hg; clear ho hg)
   have B5 : Hid (Below w.heap.size w w5) := (HB.out.trans (B2.out.mono HB.out.size)).grown HG.out (by simp; omega) (fun g e => (World.ownsRow.lt HO.out g e).1)
   go_roundw
   case rel => exact ⟨k + 1, by omega, by go_num, by rw [HE.out]; exact OwnT.snoc HO'.out, B5⟩
   case measure => simp [intOf]; omega
  ·have HO2 : Hid (OwnT wr w.heap.size u3 (l.map lit)) := by
    have h := HO.out
    rw [List.take_of_length_le (by omega)] at h
    exact h
   clear HO
   go_wp2
   go_ret
   exact ⟨_, rfl, HO2, HB⟩
end Go.Proofs.YtdeppcddknakjaaGreatDoor.Mx
namespace Go.Proofs.YtdeppcddknakjaaGreatDoor.Mx
open Go.RowKit Go.ChangeMaps Go.MapKept
open Go.Proofs.YtdeppcddknakjaaGreatDoor.Rx (EmpP SameP PreP MatP MatS ChkP pfxS pre check match_any check_any prefix_any empty_any hasPrefix_any emptyS)
open Go.Proofs.YtdeppcddknakjaaGreatDoor.Lab (nameB getL Lb LS take_snocL)
/-- An element of the map reads as itself. -/
def tokR (v : Value) : Option (DataW Value × List MemPlace) := some (.held v, [])
def nilT : DataW Value := .held (.slice none 0 0)
def klit (s : ByteArray) : Lit := .string s.data.toList
theorem klit_inj {s t : ByteArray} (h : klit s = klit t) : s = t := by
 unfold klit at h
 injection h with h
 exact ba_eq h
/-- The map in block b has, for each name, those of l with this name. -/
structure SetD (w : World) (base b k : Nat) (l : List Mt) (D : DataW Value) : Prop where
 map : w.ownsMap Tryz.prog 9 tokR b k D
 isM : Maps.IsMap D
 lt : b < base
 le : base ≤ w.heap.size
 own : ∀ s : ByteArray, ∃ v, D.atKey (klit s) nilT = .held v ∧ OwnT w base v (grp l s)
 far : ∀ s t : ByteArray, s ≠ t → ∀ v u, D.atKey (klit s) nilT = .held v → D.atKey (klit t) nilT = .held u → v.ownBlock = none ∨ v.ownBlock ≠ u.ownBlock
theorem atKey_empty (s : ByteArray) : (DataW.map [] : DataW Value).atKey (klit s) nilT = nilT := Maps.atKey_of_not_has rfl _
theorem SetD.start (w : World) : SetD (w.alloc (.map #[] 0)) (w.heap.size + 1) w.heap.size 0 [] (.map []) where
 map := World.ownsMap_made _ _ _ _
 isM := Maps.isMap_empty
 lt := Nat.lt_succ_self _
 le := by simp
 own s := ⟨.slice none 0 0, atKey_empty s, OwnT.nil _ _⟩
 far s t _ v u hv hu := by
  rw [atKey_empty] at hv
  injection hv with hv
  subst hv
  exact .inl rfl
theorem below_grown {w w' : World} (h : Below w.heap.size w w') (row : Option Nat) : w.grownBy w' row := ⟨h.os, h.tape, h.output, h.size, fun b hb _ => h.block b hb⟩
theorem SetD.up {w w' : World} {base b k : Nat} {l : List Mt} {D : DataW Value} (h : SetD w base b k l D) (hb : Below w.heap.size w w') : SetD w' base b k l D where
 map := h.map.kept (below_grown hb none) (by simp)
 isM := h.isM
 lt := h.lt
 le := Nat.le_trans h.le hb.size
 own s := by
  obtain ⟨v, h1, h2⟩ := h.own s
  exact ⟨v, h1, h2.below hb⟩
 far := h.far
theorem grp_snoc (l : List Mt) (x : Mt) (s : ByteArray) : grp (l ++ [x]) s = if x.n = s then grp l s ++ [x] else grp l s := by
 unfold grp
 rw [List.filter_append, List.filter_cons]
 split
 ·rename_i h
  rw [if_pos (by simpa using h)]
  rfl
 ·rename_i h
  rw [if_neg (by simpa using h)]
  simp
theorem own_lt {w : World} {B : Nat} {v : Value} {l : List Mt} (h : OwnT w B v l) : ∀ g, v.ownBlock = some g → B ≤ g ∧ g < w.heap.size := World.ownsRow.lt h
/-- One more matcher. -/
theorem SetD.next {V W w1 w2 : World} {base b k g c : Nat} {l : List Mt} {D : DataW Value} (h : SetD V base b k l D) (hVW : Below V.heap.size V W) (x : Mt) {v : Value} (hv : D.atKey (klit x.n) nilT = .held v)
  (ho : w1.ownsRow base 25 3 (.slice (some ⟨g, 0, none⟩) ((grp l x.n).length + 1) c) ((grp l x.n).length + 1) (cel (grp l x.n) ++ [.int .i64 x.k, .string x.n, .string x.v])) (hg : W.grownBy w1 v.ownBlock) (hat : v.ownBlock = some g ∨ V.heap.size ≤ g)
  (hm : w2.ownsMap Tryz.prog 9 tokR b (k + 1) (D.put (klit x.n) (.held (.slice (some ⟨g, 0, none⟩) ((grp l x.n).length + 1) c)))) (hg2 : w1.grownBy w2 (some b)) :
  SetD w2 base b (k + 1) (l ++ [x]) (D.put (klit x.n) (.held (.slice (some ⟨g, 0, none⟩) ((grp l x.n).length + 1) c))) := by
 have hkey : WideAt.IsKeyLit (klit x.n) := trivial
 have hbg : base ≤ g := (World.ownsRow.lt ho g rfl).1
 have same := Maps.atKey_put_same (H := Value) h.isM hkey (.held (.slice (some ⟨g, 0, none⟩) ((grp l x.n).length + 1) c)) nilT
 have other : ∀ s : ByteArray, s ≠ x.n → (D.put (klit x.n) (.held (.slice (some ⟨g, 0, none⟩) ((grp l x.n).length + 1) c))).atKey (klit s) nilT = D.atKey (klit s) nilT := fun s hs => Maps.atKey_put_other (fun e => hs (klit_inj e)) _ _
 have apart : ∀ (s : ByteArray) (u : Value), s ≠ x.n → D.atKey (klit s) nilT = .held u → u.ownBlock = none ∨ u.ownBlock ≠ some g := fun s u hs hu => by
  obtain ⟨u', h1, h2⟩ := h.own s
  rw [hu] at h1
  injection h1 with h1
  subst h1
  cases hb : u.ownBlock with
  | none => exact .inl rfl
  | some q =>
   refine .inr fun e => ?_
   injection e with e
   subst e
   rcases hat with e | e
   ·rcases h.far s x.n hs u v hu hv with k1 | k1
    ·rw [hb] at k1; cases k1
    ·exact k1 (hb.trans e.symm)
   ·have := (own_lt h2 q hb).2; omega
 refine ⟨hm, h.isM.put _ _, h.lt, Nat.le_trans h.le (Nat.le_trans hVW.size (Nat.le_trans hg.size hg2.size)), fun s => ?_, fun s t hst p q hp hq => ?_⟩
 ·rw [grp_snoc]
  by_cases hs : x.n = s
  ·subst hs
   rw [if_pos rfl]
   exact ⟨_, same, OwnT.snoc (World.ownsRow.kept ho hg2 (.inr (by have := h.lt; simp [Value.ownBlock]; omega)))⟩
  ·rw [if_neg hs, other s (fun e => hs e.symm)]
   obtain ⟨u, h1, h2⟩ := h.own s
   refine ⟨u, h1, ?_⟩
   have h3 : OwnT W base u (grp l s) := h2.below hVW
   have h4 : u.ownBlock = none ∨ u.ownBlock ≠ v.ownBlock := h.far s x.n (fun e => hs e.symm) u v h1 hv
   have h5 : OwnT w1 base u (grp l s) := World.ownsRow.kept h3 hg h4
   refine World.ownsRow.kept h5 hg2 ?_
   cases hb : u.ownBlock with
   | none => exact .inl rfl
   | some q => exact .inr fun e => by injection e with e; have := (own_lt h2 q hb).1; have := h.lt; omega
 ·by_cases hs : s = x.n
  ·subst hs
   rw [same] at hp
   injection hp with hp
   subst hp
   rw [other t (fun e => hst e.symm)] at hq
   rcases apart t q (fun e => hst e.symm) hq with k1 | k1
   ·exact .inr (by rw [k1]; simp [Value.ownBlock])
   ·exact .inr fun e => k1 (by rw [← e]; rfl)
  ·rw [other s hs] at hp
   by_cases ht : t = x.n
   ·subst ht
    rw [same] at hq
    injection hq with hq
    subst hq
    rcases apart s p hs hp with k1 | k1
    ·exact .inl k1
    ·exact .inr k1
   ·rw [other t ht] at hq
    exact h.far s t hst p q hp hq
theorem keyed9 : Maps.Keyed Tryz.prog 9 := Maps.string_keyed Tryz.underlying9
theorem zero22 (w : World) : (zeroValue 22).run Tryz.prog w = .ok (.slice none 0 0) w := by kernel_rfl
theorem key_of {s : ByteArray} (hs : s.size ≤ maxLen) : keyOf Tryz.prog 9 (.string s) = some (klit s) := WideMaps.keyOf_string_mk Tryz.underlying9 hs
/-- Looking up. -/
theorem SetD.look {w : World} {base b k : Nat} {l : List Mt} {D : DataW Value} (h : SetD w base b k l D) {s : ByteArray} (hs : s.size ≤ maxLen) {v : Value} (hv : D.atKey (klit s) nilT = .held v) : (Instr.lookup 63 (.map (some b)) (.string s) false).run Tryz.prog w = .ok v w := by
 obtain ⟨u, ps, hrun, hu⟩ := h.map.lookup (t := 63) (e := 22) keyed9 Tryz.underlying63 (zero22 w) (zd := nilT) (zp := []) rfl (key_of hs)
 rw [hv] at hu
 injection hu with hu
 injection hu with hu _
 injection hu with hu
 subst hu
 exact hrun
/-- .. whoever made it. -/
def SetR (w : World) (b : Nat) (l : List Mt) : Prop := ∃ base k D, SetD w base b k l D
theorem SetR.up {w w' : World} {b : Nat} {l : List Mt} (h : SetR w b l) (hb : Below w.heap.size w w') : SetR w' b l := by
 obtain ⟨base, k, D, h⟩ := h
 exact ⟨base, k, D, h.up hb⟩
theorem SetR.look {w : World} {b : Nat} {l : List Mt} (h : SetR w b l) {s : ByteArray} (hs : s.size ≤ maxLen) : ∃ A c, (∀ w', Below w.heap.size w w' → (Instr.lookup 63 (.map (some b)) (.string s) false).run Tryz.prog w' = .ok (.slice A (grp l s).length c) w') ∧ MS w w.heap.size A (grp l s) := by
 obtain ⟨base, k, D, h⟩ := h
 obtain ⟨v, h1, h2⟩ := h.own s
 obtain ⟨A, c, rfl, h3⟩ := h2.form
 exact ⟨A, c, fun w' hb => (h.up hb).look hs h1, h3⟩
/-- .. made behind B. -/
def SetB (w : World) (b : Nat) (l : List Mt) (B : Nat) : Prop := ∃ base k D, B ≤ b ∧ SetD w base b k l D
theorem SetB.set {w : World} {b B : Nat} {l : List Mt} (h : SetB w b l B) : SetR w b l := by
 obtain ⟨base, k, D, _, h⟩ := h
 exact ⟨base, k, D, h⟩
theorem SetB.up {w w' : World} {b B : Nat} {l : List Mt} (h : SetB w b l B) (hb : Below w.heap.size w w') : SetB w' b l B := by
 obtain ⟨base, k, D, h0, h⟩ := h
 exact ⟨base, k, D, h0, h.up hb⟩
theorem OwnT.other {w w' : World} {B g : Nat} {v : Value} {l : List Mt} (h : OwnT w B v l) (hg : w.grownBy w' (some g)) (hgB : g < B) : OwnT w' B v l := by
 refine ⟨h.1, ?_⟩
 rcases h.2 with h0 | ⟨q, cap, cur, e, h1, h2, h3⟩
 ·exact .inl h0
 ·exact .inr ⟨q, cap, cur, e, h1, (hg.block q (by have := (World.ownsRow.lt h q (by rw [e]; rfl)).2; omega) (by simp; omega)).trans h2, h3⟩
/-- A row below is written. -/
theorem SetB.other {w w' : World} {b B g : Nat} {l : List Mt} (h : SetB w b l B) (hg : w.grownBy w' (some g)) (hgB : g < B) : SetB w' b l B := by
 obtain ⟨base, k, D, h0, h⟩ := h
 refine ⟨base, k, D, h0, h.map.kept hg (by simp; omega), h.isM, h.lt, Nat.le_trans h.le hg.size, fun s => ?_, h.far⟩
 obtain ⟨v, h1, h2⟩ := h.own s
 exact ⟨v, h1, h2.other hg (by have := h.lt; omega)⟩
/-- A map is returned. -/
def SetP (l : List Mt) (w : World) (e : Ending) (w' : World) : Prop := ∃ b, e = .returned (.map (some b)) ∧ Hid (SetB w' b l w.heap.size) ∧ Hid (Below w.heap.size w w')
theorem SetD.room {V W w1 : World} {base b k g c : Nat} {l : List Mt} {D : DataW Value} (h : SetD V base b k l D) (hVW : Below V.heap.size V W) (x : Mt) (hx : x.n.size ≤ maxLen) (hk : k < maxLen) {v : Value} (hv : D.atKey (klit x.n) nilT = .held v)
  (ho : w1.ownsRow base 25 3 (.slice (some ⟨g, 0, none⟩) ((grp l x.n).length + 1) c) ((grp l x.n).length + 1) (cel (grp l x.n) ++ [.int .i64 x.k, .string x.n, .string x.v])) (hg : W.grownBy w1 v.ownBlock) (hat : v.ownBlock = some g ∨ V.heap.size ≤ g) :
  ∃ w2, (Instr.mapUpdate 63 (.map (some b)) (.string x.n) (.slice (some ⟨g, 0, none⟩) ((grp l x.n).length + 1) c)).run Tryz.prog w1 = .ok () w2 ∧ (∃ D', SetD w2 base b (k + 1) (l ++ [x]) D') ∧ w1.grownBy w2 (some b) := by
 have hne : some b ≠ v.ownBlock := fun e => by
  obtain ⟨u, h1, h2⟩ := h.own x.n
  rw [hv] at h1
  injection h1 with h1
  subst h1
  have := (own_lt h2 b e.symm).1
  have := h.lt
  omega
 have hm1 : w1.ownsMap Tryz.prog 9 tokR b k D := ((h.up hVW).map).kept hg hne
 obtain ⟨w2, hrun, h2, h3⟩ := hm1.update (t := 63) (e := 22) keyed9 Tryz.underlying63 hk (key_of hx) (val := .slice (some ⟨g, 0, none⟩) ((grp l x.n).length + 1) c) rfl
 exact ⟨w2, hrun, ⟨_, h.next hVW x hv ho hg hat h2 h3⟩, h3⟩
theorem grp_len (l : List Mt) (s : ByteArray) : (grp l s).length ≤ l.length := List.length_filter_le _ _
set_option maxHeartbeats 8000000 in
theorem setOf_any (l : List Mt) (hl : l.length ≤ 100000) (hz : ∀ m ∈ l, m.n.size ≤ maxLen) (A : Option Addr) (c : Nat) (w : World) (hA : MS w w.heap.size A l) :
  Calls Tryz.prog 48 #[.slice A l.length c] w (SetP l w) := by
 have HA := Lib.hid hA
 have HZ := Lib.hid hz
 clear hA hz
 obtain ⟨i0, hi, hz0, hz1, hz2⟩ := info_parts row25
 have HI := Lib.hid hi
 have HZ0 := Lib.hid hz0
 have HZ1 := Lib.hid hz1
 have HZ2 := Lib.hid hz2
 clear hi hz0 hz1 hz2
 have hmm := @run_makeMap Tryz.prog
 have S0 := Lib.hid (SetD.start w)
 have mixed : Tryz.prog.follows .mixedOrders = true := by kernel_rfl
 go_enter Tryz.func48, Tryz.ntmps48
 go_wp2
 go_loopw [9] (fun vi wr => ∃ (k : Nat) (D : DataW Value), k ≤ l.length ∧ vi = .int .i64 k ∧ Hid (SetD wr (w.heap.size + 1) w.heap.size k (l.take k) D) ∧ Hid (Below w.heap.size w wr)) (fun vi _ => l.length - (intOf vi).toNat)
 case atStart => exact ⟨0, .map [], by omega, rfl, S0, (Below.refl _ _).alloc (Nat.le_refl _) _⟩
 case round =>
  clear S0
  obtain ⟨k, D, hk, rfl, HS, HB⟩ := hrel
  by_cases hlt : k < l.length
  ·obtain ⟨bl, off, rfl, hbl, h1', h2', h3'⟩ := HA.out.at_ hlt
   have h1 := (HB.out.cell (p := ⟨bl, off + k * 3, none⟩) hbl).trans h1'
   have h2 := (HB.out.cell (p := ⟨bl, off + k * 3 + 1, none⟩) hbl).trans h2'
   have h3 := (HB.out.cell (p := ⟨bl, off + k * 3 + 2, none⟩) hbl).trans h3'
   clear h1' h2' h3'
   have HT : Hid (l.take (k + 1) = l.take k ++ [l[k]]) := take_snocL l hlt
   have HX := Lib.hid (HZ.out _ (List.getElem_mem hlt))
   have hgl : (grp (l.take k) l[k].n).length ≤ k := Nat.le_trans (grp_len _ _) (List.length_take_le _ _)
   obtain ⟨v, hv, ho⟩ := HS.out.own l[k].n
   have HV := Lib.hid hv
   have HO := Lib.hid ho
   clear hv ho
   generalize l[k] = x at *
   go_wp2_with fail
   have hlook : Hid (∀ W, Below wr.heap.size wr W → (Instr.lookup 63 (.map (some w.heap.size)) (.string x.n) false).run Tryz.prog W = .ok v W) := fun W hW => (HS.out.up hW).look HX.out HV.out
   have W1 : Hid (Below wr.heap.size wr (wr.alloc (.cells #[.int .i64 x.k, .string x.n, .string x.v] 25))) := (Below.refl _ _).alloc (Nat.le_refl _) _
   have HBX := Lib.hid (cell3 (heap_alloc_new wr (.cells #[.int .i64 x.k, .string x.n, .string x.v] 25)))
   have HBK := Lib.hid (heap_alloc_new wr (.cells #[.int .i64 x.k, .string x.n, .string x.v] 25))
   have HSZ : Hid ((wr.alloc (.cells #[.int .i64 x.k, .string x.n, .string x.v] 25)).heap.size = wr.heap.size + 1) := World.size_alloc _ _
   have hlt2 : wr.heap.size < (wr.alloc (.cells #[.int .i64 x.k, .string x.n, .string x.v] 25)).heap.size := by rw [HSZ.out]; omega
   generalize wr.alloc (.cells #[.int .i64 x.k, .string x.n, .string x.v] 25) = V at *
   obtain ⟨c0, c1, c2⟩ := HBX.out
   have W2 : Hid (Below wr.heap.size wr (V.alloc (.cells #[.int .i64 x.k, .string x.n, .string x.v] 25)).drew) := (W1.out.alloc W1.out.size _).drew
   have hl1 : (Instr.lookup 63 (.map (some w.heap.size)) (.string x.n) false).run Tryz.prog V.drew = .ok v V.drew := hlook.out _ W1.out.drew
   have hl2 : (Instr.lookup 63 (.map (some w.heap.size)) (.string x.n) false).run Tryz.prog (V.alloc (.cells #[.int .i64 x.k, .string x.n, .string x.v] 25)).drew = .ok v (V.alloc (.cells #[.int .i64 x.k, .string x.n, .string x.v] 25)).drew := hlook.out _ W2.out
   have E0 : Hid ((V.alloc (.cells #[.int .i64 x.k, .string x.n, .string x.v] 25)).drew.cell? ⟨wr.heap.size, 1, none⟩ = some (.string x.n)) := ((Below.refl V.heap.size V).alloc (Nat.le_refl _) (.cells #[.int .i64 x.k, .string x.n, .string x.v] 25)).drew.cell (p := ⟨wr.heap.size, 1, none⟩) hlt2 |>.trans c1
   have hbase : w.heap.size + 1 ≤ V.heap.size := by have := HS.out.le; omega
   have hvw : v.ownBlock = none ∨ v.ownBlock ≠ some wr.heap.size := by
    cases hb : v.ownBlock with
    | none => exact .inl rfl
    | some q => exact .inr fun e => by injection e with e; have := (own_lt HO.out q hb).2; omega
   go_region_law ((refine step_append_lies _ (by rfl) (.tmp 19) (.tmp 21) 22 (by rfl) (w.heap.size + 1) 25 i0 _ 3 40 Tryz.underlying22 HI.out HZ0.out HZ1.out HZ2.out rfl (by omega) v (grp (l.take k) x.n).length (cel (grp (l.take k) x.n)) (by rfl) (HO.out.below W2.out) ⟨V.heap.size, 0, none⟩ 1 1 [.int .i64 x.k, .string x.n, .string x.v] (by rfl) (by rfl) (three_new V.drew _ _ _ _ _ rfl) (by simp [Value.oneCell']) (by omega) (by simp only [maxLen]; omega) (by omega) (by simp; omega) (V.heap.size + 1) (by simp) ?_; intro gg cap w1 hown1 hgrow hat hlt1; have e1 : w1.cell? ⟨wr.heap.size, 1, none⟩ = some (.string x.n) := (World.cell?_of_block (hgrow.block wr.heap.size (by simp; omega) (fun e => hvw.elim (fun h => by rw [h] at e; cases e) (fun h => h e.symm)))).trans E0.out; obtain ⟨w2, hr2, ⟨D2, hS2⟩, hg2⟩ := HS.out.room W2.out x HX.out (by unfold maxLen; omega) HV.out hown1 hgrow (hat.imp id (fun h => by omega))))
   all_goals
    have S2 : Hid (SetD w2 (w.heap.size + 1) w.heap.size (k + 1) (l.take (k + 1)) D2) := by rw [HT.out]; exact hS2
    have B5 : Hid (Below w.heap.size w w2) := ((HB.out.trans (W2.out.mono HB.out.size)).grown hgrow (by simp; omega) (fun g e => by have := (own_lt HO.out g e).1; omega)).grown hg2 (by have := hgrow.size; simp at this; omega) (fun g e => by injection e with e; omega)
    clear hS2 hr2 hg2 hgrow hat hown1 e1 hl1 hl2 hlook HT HO HV HS W1 W2 HBX HBK E0
    go_wp2_with fail
    go_roundw
    case rel => exact ⟨k + 1, D2, by omega, by go_num, S2, B5⟩
    case measure => simp [intOf]; omega
  ·have HSL : Hid (SetD wr (w.heap.size + 1) w.heap.size k l D) := by
    have h := HS.out
    rw [List.take_of_length_le (by omega)] at h
    exact h
   clear HS
   go_wp2
   go_ret
   exact ⟨_, rfl, ⟨_, _, _, Nat.le_refl _, HSL.out⟩, HB⟩
end Go.Proofs.YtdeppcddknakjaaGreatDoor.Mx
namespace Go.Proofs.YtdeppcddknakjaaGreatDoor.Mx
open Go.RowKit
open Go.Sort (grow)
open Go.Proofs.YtdeppcddknakjaaGreatDoor.Rx (EmpP SameP PreP MatP MatS ChkP pfxS pre check match_any check_any prefix_any empty_any hasPrefix_any emptyS)
open Go.Proofs.YtdeppcddknakjaaGreatDoor.Lab (nameB getL Lb LS take_snocL)
/-- Sizes that the sets bear. -/
structure Ok (l : List Mt) : Prop where
 len : l.length ≤ 100000
 n : ∀ m ∈ l, m.n.size ≤ maxLen
 v : ∀ m ∈ l, m.v.size ≤ 1000000
theorem Ok.grp {l : List Mt} (h : Ok l) (s : ByteArray) : Ok (grp l s) := ⟨Nat.le_trans (grp_len _ _) h.len, fun m hm => h.n m (mem_grp.1 hm).1, fun m hm => h.v m (mem_grp.1 hm).1⟩
theorem Ok.max {l : List Mt} (h : Ok l) : l.length ≤ maxLen := by have := h.len; unfold maxLen; omega
set_option maxHeartbeats 2000000 in
theorem tells111 (x m : Mt) (hx : x.v.size ≤ 1000000) (hm : m.v.size ≤ 1000000) (bx : Nat) (w : World) (h0 : w.cell? ⟨bx, 0, none⟩ = some (.int .i64 m.k)) (h1 : w.cell? ⟨bx, 1, none⟩ = some (.string m.n)) (h2 : w.cell? ⟨bx, 2, none⟩ = some (.string m.v)) :
  Calls Tryz.prog 111 #[.agg #[.int .i64 x.k, .string x.n, .string x.v], .pointer (some ⟨bx, 0, none⟩)] w (EmpP (tells x m) w) := by
 have hlt : bx < w.heap.size := World.block_lt_of_cell? w _ h0
 have HB : Hid (Below w.heap.size w (w.alloc (.cells #[.int .i64 x.k, .string x.n, .string x.v] 25))) := (Below.refl _ _).alloc (Nat.le_refl _) _
 have C := Lib.hid (fun w => tells_any x m hx hm w)
 go_enter Tryz.func111, Tryz.ntmps111
 go_wp2_with (go_at_call 112; (with_reducible refine (C.out _).mono ?_); rintro e w1 ⟨rfl, b1⟩)
 go_ret
 exact ⟨rfl, HB.out.trans (b1.out.mono HB.out.size)⟩
theorem enters111 : ∀ args w, (callFunc 111 args).run Tryz.prog w = .ok (.enter 111 args) w := enters_of Tryz.func111 (by kernel_rfl) rfl
theorem enters128 : ∀ args w, (callFunc 128 args).run Tryz.prog w = .ok (.enter 128 args) w := enters_of Tryz.func128 (by kernel_rfl) rfl
/-- Behind the call of Empty, or without one. -/
theorem ens_rest {l : List Mt} (hl : Ok l) {m : Mt} (hm : m.v.size ≤ 1000000) (hn : m.n.size ≤ maxLen) {b : Nat} {w w1 : World} (hs : SetR w b l) (hb : Below w.heap.size w w1) (bx : Nat) (h0 : w1.cell? ⟨bx, 0, none⟩ = some (.int .i64 m.k)) (h1 : w1.cell? ⟨bx, 1, none⟩ = some (.string m.n)) (h2 : w1.cell? ⟨bx, 2, none⟩ = some (.string m.v)) :
  ∃ A c, (Instr.lookup 63 (.map (some b)) (.string m.n) false).run Tryz.prog w1 = .ok (.slice A (grp l m.n).length c) w1 ∧ Calls Tryz.prog 40 #[.slice A (grp l m.n).length c, .func (.func 111) #[] #[.pointer (some ⟨bx, 0, none⟩)]] w1 (EmpP ((grp l m.n).any fun x => tells x m) w1) := by
 obtain ⟨A, c, hlook, hms⟩ := hs.look hn
 have hlt : bx < w1.heap.size := World.block_lt_of_cell? w1 _ h0
 refine ⟨A, c, hlook w1 hb, hasC_any 111 #[.pointer (some ⟨bx, 0, none⟩)] enters111 (fun x => tells x m) (grp l m.n) (hl.grp _).max A c w1 (hms.up hb) (fun W x hx hW => ?_)⟩
 exact tells111 x m ((hl.grp _).v x hx) hm bx W ((hW.cell (p := ⟨bx, 0, none⟩) hlt).trans h0) ((hW.cell (p := ⟨bx, 1, none⟩) hlt).trans h1) ((hW.cell (p := ⟨bx, 2, none⟩) hlt).trans h2)
set_option maxHeartbeats 4000000 in
theorem ens_any (l : List Mt) (hl : Ok l) (m : Mt) (hm : m.v.size ≤ 1000000) (hn : m.n.size ≤ maxLen) (b : Nat) (w : World) (hs : SetR w b l) :
  Calls Tryz.prog 79 #[.map (some b), .agg #[.int .i64 m.k, .string m.n, .string m.v]] w (EmpP (ens l m) w) := by
 have HB : Hid (Below w.heap.size w (w.alloc (.cells #[.int .i64 m.k, .string m.n, .string m.v] 25))) := (Below.refl _ _).alloc (Nat.le_refl _) _
 have KE := Lib.hid (fun w => empty_any m.v (by unfold maxLen; omega) w)
 have HX := Lib.hid (cell3 (heap_alloc_new w (.cells #[.int .i64 m.k, .string m.n, .string m.v] 25)))
 have HR := Lib.hid (fun (w1 : World) (hb : Below w.heap.size w w1) h0 h1 h2 => ens_rest hl hm hn hs hb w.heap.size h0 h1 h2)
 clear hs
 by_cases h4 : m.k = 4
 ·have e4 := bneT h4
  cases he : emp m.v with
  | true =>
   have HE : Hid (ens l m = true) := by
    show _ = _
    unfold ens
    rw [he, decide_eq_true h4]
    rfl
   have he' : emptyS m.v.data.toList = true := he
   rw [he'] at KE
   clear h4 he he' HR
   go_enter Tryz.func79, Tryz.ntmps79
   go_wp2_with (go_at_call 110; (with_reducible refine (KE.out _).mono ?_); rintro e w1 ⟨rfl, b1⟩)
   go_ret
   exact ⟨okE HE.out.symm, HB.out.trans (b1.out.mono HB.out.size)⟩
  | false =>
   have HE : Hid (ens l m = (grp l m.n).any fun x => tells x m) := by
    show _ = _
    unfold ens
    rw [he]
    simp
   have he' : emptyS m.v.data.toList = false := he
   rw [he'] at KE
   clear h4 he he'
   go_enter Tryz.func79, Tryz.ntmps79
   go_wp2_with fail
   refine (KE.out _).mono ?_
   rintro e w1 ⟨rfl, b1⟩
   have HB1 : Hid (Below w.heap.size w w1) := HB.out.trans (b1.out.mono HB.out.size)
   obtain ⟨hc, hf⟩ := bcell b1.out
   have hz : w.heap.size < (w.alloc (.cells #[.int .i64 m.k, .string m.n, .string m.v] 25)).heap.size := by simp
   have c0 := (hc w.heap.size 0 hz).trans HX.out.1
   have c1 := (hc w.heap.size 1 hz).trans HX.out.2.1
   have c2 := (hc w.heap.size 2 hz).trans HX.out.2.2
   obtain ⟨A, c, hl1, hk⟩ := HR.out w1 HB1.out c0 c1 c2
   have KH := Lib.hid hk
   clear hk hc hf hz
   go_wp2_with (go_at_call 40; (with_reducible refine KH.out.mono ?_); rintro e w2 ⟨rfl, b2⟩)
   go_ret
   exact ⟨okE HE.out.symm, HB1.out.trans (b2.out.mono HB1.out.size)⟩
 ·have e4 := bneF h4
  have HE : Hid (ens l m = (grp l m.n).any fun x => tells x m) := by
   show _ = _
   unfold ens
   rw [decide_eq_false h4]
   simp
  clear h4 KE
  obtain ⟨c0, c1, c2⟩ := HX.out
  obtain ⟨A, c, hl1, hk⟩ := HR.out _ HB.out c0 c1 c2
  have KH := Lib.hid hk
  clear hk
  go_enter Tryz.func79, Tryz.ntmps79
  go_wp2_with (go_at_call 40; (with_reducible refine KH.out.mono ?_); rintro e w2 ⟨rfl, b2⟩)
  go_ret
  exact ⟨okE HE.out.symm, HB.out.trans (b2.out.mono HB.out.size)⟩
set_option maxHeartbeats 2000000 in
theorem contra_any (l : List Mt) (hl : Ok l) (m : Mt) (hm : m.v.size ≤ 1000000) (hn : m.n.size ≤ maxLen) (b : Nat) (w : World) (hs : SetR w b l) :
  Calls Tryz.prog 49 #[.map (some b), .agg #[.int .i64 m.k, .string m.n, .string m.v]] w (EmpP (contra l m) w) := by
 have HB : Hid (Below w.heap.size w (w.alloc (.cells #[.int .i64 m.k, .string m.n, .string m.v] 25))) := (Below.refl _ _).alloc (Nat.le_refl _) _
 have hv2 : (neg m).v.size ≤ 1000000 := by
  unfold neg
  split
  ·exact hm
  ·split
   ·exact hm
   ·split
    ·exact hm
    ·split
     ·exact hm
     ·exact (show 0 ≤ 1000000 by omega)
 have hn2 : (neg m).n.size ≤ maxLen := by
  unfold neg
  split
  ·exact hn
  ·split
   ·exact hn
   ·split
    ·exact hn
    ·split
     ·exact hn
     ·exact (show 0 ≤ maxLen by unfold maxLen; omega)
 have KN := Lib.hid (fun w => neg_any m w)
 have KE := Lib.hid (fun w hs => ens_any l hl (neg m) hv2 hn2 b w hs)
 have HS := Lib.hid hs
 clear hs hv2 hn2
 show Calls _ _ _ _ (EmpP (ens l (neg m)) w)
 generalize ens l (neg m) = r at *
 generalize neg m = y at *
 go_enter Tryz.func49, Tryz.ntmps49
 go_wp2_with fail
 refine (KN.out _).mono ?_
 rintro e w1 ⟨rfl, b1⟩
 have HB1 : Hid (Below w.heap.size w w1) := HB.out.trans (b1.out.mono HB.out.size)
 go_wp2_with (go_at_call 79; (with_reducible refine (KE.out _ (HS.out.up HB1.out)).mono ?_); rintro e w2 ⟨rfl, b2⟩)
 go_ret
 exact ⟨rfl, HB1.out.trans (b2.out.mono HB1.out.size)⟩
set_option maxHeartbeats 2000000 in
theorem repl_any (l : List Mt) (hl : Ok l) (m : Mt) (hm : m.v.size ≤ 1000000) (hn : m.n.size ≤ maxLen) (b : Nat) (w : World) (hs : SetR w b l) :
  Calls Tryz.prog 51 #[.map (some b), .agg #[.int .i64 m.k, .string m.n, .string m.v]] w (EmpP (repl l m) w) := by
 have HB : Hid (Below w.heap.size w (w.alloc (.cells #[.int .i64 m.k, .string m.n, .string m.v] 25))) := (Below.refl _ _).alloc (Nat.le_refl _) _
 have KE := Lib.hid (ens_any l hl m hm hn b _ (hs.up HB.out))
 clear hs
 by_cases h1 : m.k = 1
 ·have HE : Hid (repl l m = false) := by
   show _ = _
   unfold repl
   rw [h1]
   rfl
  have e1 : (m.k != 1) = false := by rw [bne, bneT h1]; rfl
  have e1' := bneT h1
  clear h1 KE
  go_enter Tryz.func51, Tryz.ntmps51
  go_wp2
  go_ret
  exact ⟨okE HE.out.symm, HB⟩
 ·have HE : Hid (repl l m = ens l m) := by
   show _ = _
   unfold repl
   rw [decide_eq_true h1]
   rfl
  have e1 : (m.k != 1) = true := by rw [bne, bneF h1]; rfl
  have e1' := bneF h1
  clear h1
  go_enter Tryz.func51, Tryz.ntmps51
  go_wp2_with (go_at_call 79; (with_reducible refine KE.out.mono ?_); rintro e w2 ⟨rfl, b2⟩)
  go_ret
  exact ⟨okE HE.out.symm, HB.out.trans (b2.out.mono HB.out.size)⟩
set_option maxHeartbeats 2000000 in
theorem refuses128 (x : Mt) (s : ByteArray) (hx : x.v.size ≤ 1000000) (hs : s.size ≤ 1000000) (bx : Nat) (w : World) (h0 : w.cell? ⟨bx, 0, none⟩ = some (.string s)) :
  Calls Tryz.prog 128 #[.agg #[.int .i64 x.k, .string x.n, .string x.v], .pointer (some ⟨bx, 0, none⟩)] w (EmpP (!fits x s) w) := by
 have hlt : bx < w.heap.size := World.block_lt_of_cell? w _ h0
 have HB : Hid (Below w.heap.size w (w.alloc (.cells #[.int .i64 x.k, .string x.n, .string x.v] 25))) := (Below.refl _ _).alloc (Nat.le_refl _) _
 have C := Lib.hid (fun w => matches_any x.k x.n x.v s (by unfold maxLen; omega) hs w)
 rw [mt_eta] at C
 go_enter Tryz.func128, Tryz.ntmps128
 go_wp2_with (go_at_call 71; (with_reducible refine (C.out _).mono ?_); rintro e w1 ⟨rfl, b1⟩)
 go_ret
 exact ⟨rfl, HB.out.trans (b1.out.mono HB.out.size)⟩
set_option maxHeartbeats 2000000 in
theorem refuses_any (l : List Mt) (hl : Ok l) (n s : ByteArray) (hn : n.size ≤ maxLen) (hv : s.size ≤ 1000000) (b : Nat) (w : World) (hs : SetR w b l) :
  Calls Tryz.prog 93 #[.map (some b), .string n, .string s] w (EmpP ((grp l n).any fun x => !fits x s) w) := by
 have HB : Hid (Below w.heap.size w (w.alloc (.cells #[.string s] 9))) := (Below.refl _ _).alloc (Nat.le_refl _) _
 obtain ⟨A, c, hlook, hms⟩ := hs.look hn
 have hl1 := hlook _ HB.out
 have KH := Lib.hid (hasC_any 128 #[.pointer (some ⟨w.heap.size, 0, none⟩)] enters128 (fun x => !fits x s) (grp l n) (hl.grp _).max A c _ (hms.up HB.out) (fun W x hx hW => refuses128 x s ((hl.grp _).v x hx) hv w.heap.size W ((hW.cell (p := ⟨w.heap.size, 0, none⟩) (by simp)).trans (by simp))))
 clear hs hlook hms
 go_enter Tryz.func93, Tryz.ntmps93
 go_wp2_with (go_at_call 40; (with_reducible refine KH.out.mono ?_); rintro e w2 ⟨rfl, b2⟩)
 go_ret
 exact ⟨rfl, HB.out.trans (b2.out.mono HB.out.size)⟩
end Go.Proofs.YtdeppcddknakjaaGreatDoor.Mx
namespace Go.Proofs.YtdeppcddknakjaaGreatDoor.Mx
open Go.RowKit
open Go.Sort (grow)
open Go.Proofs.YtdeppcddknakjaaGreatDoor.Rx (EmpP SameP PreP MatP MatS ChkP pfxS pre check match_any check_any prefix_any empty_any hasPrefix_any emptyS)
open Go.Proofs.YtdeppcddknakjaaGreatDoor.Lab (nameB getL Lb LS take_snocL)
theorem mt_dec (m x : Mt) : decide (m = x) = (m.k == x.k && (m.n.toList == x.n.toList && m.v.toList == x.v.toList)) := by
 rw [str_dec, str_dec, Bool.eq_iff_iff]
 simp only [decide_eq_true_iff, Bool.and_eq_true, beq_iff_eq]
 exact ⟨fun h => by rw [h]; exact ⟨rfl, rfl, rfl⟩, fun h => Mt.ext' h.1 h.2.1 h.2.2⟩
theorem eql_mt (m x : Mt) (w : World) : (binOp .eql 25 (.agg #[.int .i64 m.k, .string m.n, .string m.v]) (.agg #[.int .i64 x.k, .string x.n, .string x.v])).run Tryz.prog w = .ok (.bool (decide (m = x))) w := by
 have u9 := Tryz.underlying9
 have u3 := Tryz.underlying3
 have hS : Tryz.prog.underlying 25 = some (.struct (Tryz.prog.fieldsOf 25)) := by kernel_rfl
 have hp : Tryz.prog.stoodInHeld 25 = false := by kernel_rfl
 rw [run_eql_struct, show (10000 : Nat) = 9999 + 1 from rfl, run_equalIn_agg w 9999 25 _ _ hS hp, mt_dec]
 simp only [Program.fieldsOf, Tryz.underlying25]
 go_simp
 cases h0 : (m.k == x.k) <;> cases h1 : (m.n.toList == x.n.toList) <;> cases h2 : (m.v.toList == x.v.toList) <;> simp_all
theorem neq_mt (m x : Mt) (w : World) : (binOp .neq 25 (.agg #[.int .i64 m.k, .string m.n, .string m.v]) (.agg #[.int .i64 x.k, .string x.n, .string x.v])).run Tryz.prog w = .ok (.bool (!decide (m = x))) w := by
 have u9 := Tryz.underlying9
 have u3 := Tryz.underlying3
 have hS : Tryz.prog.underlying 25 = some (.struct (Tryz.prog.fieldsOf 25)) := by kernel_rfl
 have hp : Tryz.prog.stoodInHeld 25 = false := by kernel_rfl
 rw [run_neq_struct, show (10000 : Nat) = 9999 + 1 from rfl, run_equalIn_agg w 9999 25 _ _ hS hp, mt_dec]
 simp only [Program.fieldsOf, Tryz.underlying25]
 go_simp
 cases h0 : (m.k == x.k) <;> cases h1 : (m.n.toList == x.n.toList) <;> cases h2 : (m.v.toList == x.v.toList) <;> simp_all
set_option maxHeartbeats 4000000 in
theorem index_any (l : List Mt) (hl : l.length ≤ maxLen) (m : Mt) (A : Option Addr) (c : Nat) (w : World) (hL : MS w w.heap.size A l) :
  Calls Tryz.prog 127 #[.slice A l.length c, .agg #[.int .i64 m.k, .string m.n, .string m.v]] w (IdxP (l.contains m) w) := by
 unfold maxLen at hl
 have HL := Lib.hid hL
 have HX := Lib.hid (cell3 (heap_alloc_new w (.cells #[.int .i64 m.k, .string m.n, .string m.v] 25)))
 have HB0 : Hid (Below w.heap.size w (w.alloc (.cells #[.int .i64 m.k, .string m.n, .string m.v] 25))) := (Below.refl _ _).alloc (Nat.le_refl _) _
 clear hL
 go_enter Tryz.func127, Tryz.ntmps127
 go_wp2
 go_loopw [5, 8] (fun _ i wr => ∃ k : Nat, k ≤ l.length ∧ i = .int .i64 k ∧ Hid (∀ j (hj : j < l.length), j < k → l[j] ≠ m) ∧ Hid (∃ n, wr = (w.alloc (.cells #[.int .i64 m.k, .string m.n, .string m.v] 25)).drewN n)) (fun _ i _ => l.length - (intOf i).toNat)
 case atStart => exact ⟨0, by omega, rfl, fun j _ h => by omega, 0, rfl⟩
 case round =>
  obtain ⟨k, hk, rfl, H, hwr⟩ := hrel
  obtain ⟨n, rfl⟩ := hwr.out
  clear hwr
  by_cases hlt : k < l.length
  ·obtain ⟨b, off, rfl, hb, h1', h2', h3'⟩ := HL.out.at_ hlt
   have h1 := (HB0.out.cell (p := ⟨b, off + k * 3, none⟩) hb).trans h1'
   have h2 := (HB0.out.cell (p := ⟨b, off + k * 3 + 1, none⟩) hb).trans h2'
   have h3 := (HB0.out.cell (p := ⟨b, off + k * 3 + 2, none⟩) hb).trans h3'
   clear h1' h2' h3'
   have hne := fun w => eql_mt m l[k] w
   by_cases he : m = l[k]
   ·have HE : Hid (l.contains m = true) := List.contains_iff_mem.2 (by rw [he]; exact List.getElem_mem hlt)
    simp only [decide_eq_true he] at hne
    clear he H
    go_wp2
    go_quiet (fail)
    go_wp2
    go_ret
    exact ⟨_, rfl, by rw [HE.out]; exact decide_eq_true (by omega), Lab.below_drewN (Lab.below_drewN HB0.out _) _⟩
   ·have HE : Hid (∀ j (hj : j < l.length), j < k + 1 → l[j] ≠ m) := fun j hj h => by
     rcases Nat.lt_or_ge j k with h3 | h3
     ·exact H.out j hj h3
     ·obtain rfl : j = k := by omega
      exact fun e => he e.symm
    simp only [decide_eq_false he] at hne
    clear he H
    go_wp2
    go_quiet (fail)
    go_wp2
    go_roundw
    case rel => exact ⟨k + 1, by omega, by go_num, HE, _, rfl⟩
    case measure => simp [intOf]; omega
  ·obtain rfl : k = l.length := by omega
   have HE : Hid (l.contains m = false) := by
    show _ = _
    rw [Bool.eq_false_iff]
    intro hx
    obtain ⟨j, hj, hjm⟩ := List.getElem_of_mem (List.contains_iff_mem.1 hx)
    exact H.out j hj hj hjm
   clear H
   go_wp2
   go_ret
   exact ⟨-1, rfl, by rw [HE.out]; rfl, Lab.below_drewN HB0.out _⟩
theorem contains_any (l : List Mt) (hl : l.length ≤ maxLen) (m : Mt) (A : Option Addr) (c : Nat) (w : World) (hL : MS w w.heap.size A l) :
  Calls Tryz.prog 92 #[.slice A l.length c, .agg #[.int .i64 m.k, .string m.n, .string m.v]] w (EmpP (l.contains m) w) := by
 have HB0 : Hid (Below w.heap.size w (w.alloc (.cells #[.int .i64 m.k, .string m.n, .string m.v] 25))) := (Below.refl _ _).alloc (Nat.le_refl _) _
 have C := Lib.hid (index_any l hl m A c _ (hL.up HB0.out))
 clear hL
 generalize l.contains m = r at *
 go_enter Tryz.func92, Tryz.ntmps92
 go_wp2_with (go_at_call 127; (with_reducible refine C.out.mono ?_); rintro e w' ⟨i, rfl, hi, hb⟩)
 go_ret
 exact ⟨rfl, HB0.out.trans (hb.out.mono HB0.out.size)⟩
set_option maxHeartbeats 4000000 in
theorem impl_any (l : List Mt) (hl : Ok l) (m : Mt) (hm : m.v.size ≤ 1000000) (hn : m.n.size ≤ maxLen) (b : Nat) (w : World) (hs : SetR w b l) :
  Calls Tryz.prog 59 #[.map (some b), .agg #[.int .i64 m.k, .string m.n, .string m.v]] w (EmpP (impl l m) w) := by
 have HB : Hid (Below w.heap.size w (w.alloc (.cells #[.int .i64 m.k, .string m.n, .string m.v] 25))) := (Below.refl _ _).alloc (Nat.le_refl _) _
 have HX := Lib.hid (cell3 (heap_alloc_new w (.cells #[.int .i64 m.k, .string m.n, .string m.v] 25)))
 obtain ⟨A, c, hlook, hms⟩ := hs.look hn
 have hl1 := hlook _ HB.out
 have KC := Lib.hid (contains_any (grp l m.n) (hl.grp _).max m A c _ (hms.up HB.out))
 have KE := Lib.hid (fun w hs => ens_any l hl m hm hn b w hs)
 have KR := Lib.hid (fun w hs => refuses_any l hl m.n m.v hn hm b w hs)
 have HS := Lib.hid hs
 clear hs hlook hms
 have hz : w.heap.size < (w.alloc (.cells #[.int .i64 m.k, .string m.n, .string m.v] 25)).heap.size := by simp
 cases hc : (grp l m.n).contains m with
 | true =>
  have HE : Hid (impl l m = true) := by
   show _ = _
   unfold impl
   rw [hc]
   rfl
  rw [hc] at KC
  clear hc
  go_enter Tryz.func59, Tryz.ntmps59
  go_wp2_with (go_at_call 92; (with_reducible refine KC.out.mono ?_); rintro e w2 ⟨rfl, b2⟩)
  go_ret
  exact ⟨okE HE.out.symm, HB.out.trans (b2.out.mono HB.out.size)⟩
 | false =>
  rw [hc] at KC
  cases he : ens l m with
  | true =>
   have HE : Hid (impl l m = true) := by
    show _ = _
    unfold impl
    rw [he, Bool.or_true]
    rfl
   rw [he] at KE
   clear hc he
   go_enter Tryz.func59, Tryz.ntmps59
   go_wp2_with fail
   refine KC.out.mono ?_
   rintro e w2 ⟨rfl, b2⟩
   have HB2 : Hid (Below w.heap.size w w2) := HB.out.trans (b2.out.mono HB.out.size)
   obtain ⟨hc, hf⟩ := bcell b2.out
   go_wp2_with (go_at_call 79; (with_reducible refine (KE.out _ (HS.out.up HB2.out)).mono ?_); rintro e w3 ⟨rfl, b3⟩)
   go_ret
   exact ⟨okE HE.out.symm, HB2.out.trans (b3.out.mono HB2.out.size)⟩
  | false =>
   rw [he] at KE
   by_cases h2 : m.k = 2
   ·have HE : Hid (impl l m = (grp l m.n).any fun x => !fits x m.v) := by
     show _ = _
     unfold impl
     rw [hc, he, decide_eq_true h2]
     rfl
    have e2 := bneT h2
    clear hc he h2
    go_enter Tryz.func59, Tryz.ntmps59
    go_wp2_with fail
    refine KC.out.mono ?_
    rintro e w2 ⟨rfl, b2⟩
    have HB2 : Hid (Below w.heap.size w w2) := HB.out.trans (b2.out.mono HB.out.size)
    obtain ⟨hc, hf⟩ := bcell b2.out
    have c0 := (hc w.heap.size 0 hz).trans HX.out.1
    have c1 := (hc w.heap.size 1 hz).trans HX.out.2.1
    have c2 := (hc w.heap.size 2 hz).trans HX.out.2.2
    clear hc hf
    go_wp2_with fail
    refine (KE.out _ (HS.out.up HB2.out)).mono ?_
    rintro e w3 ⟨rfl, b3⟩
    have HB3 : Hid (Below w.heap.size w w3) := HB2.out.trans (b3.out.mono HB2.out.size)
    have B3 : Hid (Below (w.alloc (.cells #[.int .i64 m.k, .string m.n, .string m.v] 25)).heap.size (w.alloc (.cells #[.int .i64 m.k, .string m.n, .string m.v] 25)) w3) := b2.out.trans (b3.out.mono b2.out.size)
    obtain ⟨hc, hf⟩ := bcell B3.out
    have d0 := (hc w.heap.size 0 hz).trans HX.out.1
    have d1 := (hc w.heap.size 1 hz).trans HX.out.2.1
    have d2 := (hc w.heap.size 2 hz).trans HX.out.2.2
    clear hc hf c0 c1 c2
    go_wp2_with (go_at_call 93; (with_reducible refine (KR.out _ (HS.out.up HB3.out)).mono ?_); rintro e w4 ⟨rfl, b4⟩)
    go_ret
    exact ⟨okE HE.out.symm, HB3.out.trans (b4.out.mono HB3.out.size)⟩
   ·have HE : Hid (impl l m = false) := by
     show _ = _
     unfold impl
     rw [hc, he, decide_eq_false h2]
     rfl
    have e2 := bneF h2
    clear hc he h2
    go_enter Tryz.func59, Tryz.ntmps59
    go_wp2_with fail
    refine KC.out.mono ?_
    rintro e w2 ⟨rfl, b2⟩
    have HB2 : Hid (Below w.heap.size w w2) := HB.out.trans (b2.out.mono HB.out.size)
    obtain ⟨hc, hf⟩ := bcell b2.out
    have c0 := (hc w.heap.size 0 hz).trans HX.out.1
    have c1 := (hc w.heap.size 1 hz).trans HX.out.2.1
    have c2 := (hc w.heap.size 2 hz).trans HX.out.2.2
    clear hc hf
    go_wp2_with fail
    refine (KE.out _ (HS.out.up HB2.out)).mono ?_
    rintro e w3 ⟨rfl, b3⟩
    have HB3 : Hid (Below w.heap.size w w3) := HB2.out.trans (b3.out.mono HB2.out.size)
    have B3 : Hid (Below (w.alloc (.cells #[.int .i64 m.k, .string m.n, .string m.v] 25)).heap.size (w.alloc (.cells #[.int .i64 m.k, .string m.n, .string m.v] 25)) w3) := b2.out.trans (b3.out.mono b2.out.size)
    obtain ⟨hc, hf⟩ := bcell B3.out
    have d0 := (hc w.heap.size 0 hz).trans HX.out.1
    clear hc hf c0 c1 c2
    go_wp2
    go_ret
    exact ⟨okE HE.out.symm, HB3⟩
end Go.Proofs.YtdeppcddknakjaaGreatDoor.Mx
