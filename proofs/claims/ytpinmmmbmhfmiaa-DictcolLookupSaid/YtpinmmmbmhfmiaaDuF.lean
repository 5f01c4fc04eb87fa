/- Layer 10: the program's runs: the iterator, and its runs appended to bytes. -/
import Derived.RangeFuncNested
import Derived.RangeFuncBound
import Derived.RangeFuncCalls
import Derived.RangeFuncLeaves
import Derived.RangeFuncBox
import Derived.Maps.AppendAt
import Derived.Maps.OwnIn
import Derived.Shelf.Abstract
import Derived.Shelf.RegionOpen
import Derived.WalkKit
import Derived.OwnWalkIn
import Derived.TacticsInMore
import Derived.LoopNIn
import Derived.LoopIn
import Derived.Test.YtpinmmmbmhfmiaaDuE
set_option linter.unusedVariables false
set_option linter.unusedSimpArgs false
namespace Go.Proofs.Ytpinmmmbmhfmiaa.Dt
open Go.RowKit Go.Shelf Dc

attribute [local go_sem] Oper.semAt_some

/-- A string of a dictionary and how many times it stands there. -/
abbrev RS (d : List BA) := { p : BA × Nat // p.1 ∈ d ∧ 1 ≤ p.2 ∧ p.2 ≤ 100000 }
abbrev encR {d : List BA} (x : RS d) : Array Value := #[.string x.1.1, .int .i64 (x.1.2 : Int)]
def vals {d : List BA} (l : List (RS d)) : List (BA × Nat) := l.map (·.1)
theorem vals_snoc {d : List BA} (l : List (RS d)) (x : RS d) : vals (l ++ [x]) = vals l ++ [x.1] := by unfold vals; rw [List.map_append]; rfl
theorem vals_length {d : List BA} (l : List (RS d)) : (vals l).length = l.length := List.length_map ..
/-- What a round keeps: the list's block, and the box's. -/
def KK (b1 b2 : Nat) (W W' : World) : Prop := W'.heap[b1]? = W.heap[b1]? ∧ W'.heap[b2]? = W.heap[b2]?
theorem KK.trans {b1 b2 : Nat} {A B C : World} (h : KK b1 b2 A B) (k : KK b1 b2 B C) : KK b1 b2 A C := ⟨k.1.trans h.1, k.2.trans h.2⟩
theorem KK.cell1 {b1 b2 : Nat} {A B : World} (h : KK b1 b2 A B) (o : Nat) : B.cell? ⟨b1, o, none⟩ = A.cell? ⟨b1, o, none⟩ := World.cell?_of_block h.1
theorem KK.cell2 {b1 b2 : Nat} {A B : World} (h : KK b1 b2 A B) (o : Nat) : B.cell? ⟨b2, o, none⟩ = A.cell? ⟨b2, o, none⟩ := World.cell?_of_block h.2
theorem KK.put {b1 b2 : Nat} {W : World} {l : Nat} {o : Obj} (h1 : b1 ≠ l) (h2 : b2 ≠ l) : KK b1 b2 W (W.putObj l o) := ⟨World.putObj_heap_other h1, World.putObj_heap_other h2⟩
/-- The list, by its block and its box. -/
structure Lies (b1 b2 o c : Nat) (a : Option Addr) (zs : List BA) (V : World) : Prop where
  box : V.cell? ⟨b2, 0, none⟩ = some (.slice a zs.length c)
  at_ : 0 < zs.length → a = some ⟨b1, o, none⟩
  cells : ∀ j, j < zs.length → V.cell? ⟨b1, o + j, none⟩ = some (.string (zs[j]?.getD ⟨#[]⟩))
theorem Lies.kept {b1 b2 o c : Nat} {a : Option Addr} {zs : List BA} {V V' : World} (h : Lies b1 b2 o c a zs V) (k : KK b1 b2 V V') : Lies b1 b2 o c a zs V' :=
  ⟨(k.cell2 0).trans h.box, h.at_, fun j hj => (k.cell1 _).trans (h.cells j hj)⟩
/-- Between two rounds. -/
structure RunI {d : List BA} (b1 b2 o c : Nat) (a : Option Addr) (zs : List BA) (J : List (RS d) → World → Prop) (pre : List (RS d)) (st k : Nat) (x : BA) (V : World) : Prop where
  lies : Lies b1 b2 o c a zs V
  le : st ≤ k
  seg : Seg zs st k x
  on : st < k → k < zs.length ∧ zs[k]?.getD ⟨#[]⟩ = x
  eq : rle zs = vals pre ++ rle (zs.drop st)
  j : J pre V
theorem run_lt {d zs : List BA} {pre : List (RS d)} {r : List (BA × Nat)} {p : BA × Nat} (h : rle zs = vals pre ++ p :: r) : pre.length < (rle zs).length := by
  rw [h, List.length_append, vals_length, List.length_cons]
  omega
theorem run_next {d zs : List BA} {pre : List (RS d)} {r : List (BA × Nat)} {p : BA × Nat} {x : RS d} (h : rle zs = vals pre ++ p :: r) (hx : x.1 = p) : rle zs = vals (pre ++ [x]) ++ r := by
  rw [h, vals_snoc, hx]
  simp

set_option maxRecDepth 100000 in
set_option maxHeartbeats 4000000 in
theorem runs1_in (d : List BA) (dp : Nat) (hn : 1 ≤ dp) (l b1 b2 o c : Nat) (a : Option Addr) (zs : List BA) (hl : zs.length ≤ 100000) (hz : ∀ x ∈ zs, x ∈ d)
    (J Jx : List (RS d) → World → Prop)
    (hY : ∀ pre x W, J pre W → pre.length < (rle zs).length → YieldAt Fence.wide (dp - 1) Try.prog l (encR x) W fun e W' =>
      (e = .returned (.bool true) ∧ J (pre ++ [x]) W' ∧ KK b1 b2 W W') ∨ (e = .returned (.bool false) ∧ Jx (pre ++ [x]) W'))
    (W : World) (hL : Lies b1 b2 o c a zs W) (h0 : J [] W) :
    CallsIn Fence.wide dp Try.prog 92 #[.func (.yield l) #[] #[], .pointer (some ⟨b2, 0, none⟩)] W fun e W' => (∃ v, e = .returned v) ∧
      ((∃ ys, vals ys = rle zs ∧ J ys W') ∨ (∃ pre, True ∧ Jx pre W')) := by
  have HY := Lib.hid hY
  have HW := Lib.hid hz
  have H0 : Hid (RunI b1 b2 o c a zs J [] 0 0 ⟨#[]⟩ W) := ⟨hL, Nat.le_refl _, fun i h1 h2 => by omega, fun h => by omega, by simp [vals], h0⟩
  have hbx := hL.box
  clear hY hz hL h0
  refine callsIn_of_wp Try.func92 rfl trivial ?_ rfl
  simp only [Try.ntmps92, List.size_toArray, List.length_cons, List.length_nil, Nat.reduceAdd, Nat.reduceSub, Array.replicate_succ, Array.replicate_zero, List.push_toArray, List.append_toArray, List.nil_append, List.cons_append]
  gi_wp2
  clear hbx
  gi_loopw [3, 8] (fun vm vi wr => ∃ (m k st : Nat) (x : BA) (pre : List (RS d)), m + st = k ∧ k ≤ zs.length ∧ vm = .int .i64 m ∧ vi = .int .i64 k ∧ Hid (RunI b1 b2 o c a zs J pre st k x wr))
    (fun _ vi _ => zs.length - (intOf vi).toNat)
  case atStart => exact ⟨0, 0, 0, ⟨#[]⟩, [], rfl, Nat.zero_le _, rfl, rfl, H0⟩
  case round =>
    clear H0
    obtain ⟨m, k, st, x, pre, hmk, hk, rfl, rfl, HS⟩ := hrel
    by_cases hlt : k < zs.length
    · obtain rfl := HS.out.lies.at_ (by omega)
      have hbx := HS.out.lies.box
      have hcell := HS.out.lies.cells k hlt
      have hx : zs[k]?.getD ⟨#[]⟩ ∈ d := by rw [at_get hlt]; exact HW.out _ (List.getElem_mem hlt)
      have HG : Hid (Seg zs st (k + 1) (zs[k]?.getD ⟨#[]⟩)) := HS.out.seg.more (fun h => (HS.out.on h).2) rfl HS.out.le
      have HE := Lib.hid (fun hn => run_end HS.out.le hlt HG.out hn)
      have hi : (k : Int) < zs.length := by omega
      obtain ⟨z, hzz⟩ : ∃ z, zs[k]?.getD ⟨#[]⟩ = z := ⟨_, rfl⟩
      rw [hzz] at hcell hx HG HE
      have HZ := Lib.hid hzz
      have hw1 : wrap64 ((m : Int) + 1) = ((m + 1 : Nat) : Int) := by unfold wrap64; omega
      have hw2 : wrap64 ((k : Int) + 1) = ((k + 1 : Nat) : Int) := by unfold wrap64; omega
      clear hzz
      have key : Hid ((k + 1 < zs.length → zs[k + 1]?.getD ⟨#[]⟩ ≠ z) → ∃ X : RS d, X.1 = (z, m + 1) ∧ pre.length < (rle zs).length ∧ ∀ V, J (pre ++ [X]) V → KK b1 b2 wr V → RunI b1 b2 o c (some ⟨b1, o, none⟩) zs J (pre ++ [X]) (k + 1) (k + 1) ⟨#[]⟩ V) := Lib.hid fun hn => by
        have e := HE.out hn
        have hq := HS.out.eq
        rw [e, show k - st + 1 = m + 1 by omega] at hq
        exact ⟨⟨(z, m + 1), ⟨hx, by dsimp only; omega, by dsimp only; omega⟩⟩, rfl, run_lt hq, fun V hj hk => ⟨HS.out.lies.kept hk, Nat.le_refl _, fun i h1 h2 => by omega, fun h => by omega, run_next hq rfl, hj⟩⟩
      by_cases hlt2 : k + 1 < zs.length
      · have hcell2 := HS.out.lies.cells (k + 1) hlt2
        have hi2 : (k : Int) + 1 < zs.length := by omega
        by_cases hq : zs[k + 1]?.getD ⟨#[]⟩ = z
        · rw [hq] at hcell2
          have HN : Hid (RunI b1 b2 o c (some ⟨b1, o, none⟩) zs J pre st (k + 1) z wr) := ⟨HS.out.lies, by have := HS.out.le; omega, HG.out, fun _ => ⟨hlt2, hq⟩, HS.out.eq, HS.out.j⟩
          have hqq : (z.toList == z.toList) = true := by simp
          clear HS HG HE HY key hq hx
          gi_wp2
          go_roundw
          case rel => exact ⟨m + 1, k + 1, st, z, pre, by omega, by omega, by go_num, by go_num, HN⟩
          case measure => simp [intOf]; omega
        · obtain ⟨X, hX, hpl, hnext⟩ := key.out (fun _ => hq)
          obtain ⟨fn, tmps, assign, body, hy, hR⟩ := HY.out pre X wr HS.out.j hpl
          dsimp only [encR] at hy
          rw [hX] at hy
          dsimp only at hy
          rw [show ((m + 1 : Nat) : Int) = (m : Int) + 1 by omega] at hy
          have HR := Lib.hid hR
          have HN := Lib.hid hnext
          generalize zs[k + 1]?.getD ⟨#[]⟩ = y at *
          have hqq : (y.toList == z.toList) = false := eq_no hq
          clear HS HG HE HY key hq hx hR hnext hX hpl
          gi_wp2
          refine HR.out.mono ?_
          rintro e W5 (⟨rfl, hj, hk5⟩ | ⟨rfl, hjx⟩)
          · have T3 := Lib.hid (HN.out W5 hj hk5)
            clear hj hk5 HN HR hy
            gi_wp2
            go_roundw
            case rel => exact ⟨0, k + 1, k + 1, ⟨#[]⟩, _, by omega, by omega, rfl, by go_num, T3⟩
            case measure => simp [intOf]; omega
          · gi_wp2
            refine bodyPost_ret (results_none rfl _ _ _) rfl ?_
            exact ⟨⟨_, rfl⟩, .inr ⟨_, trivial, hjx⟩⟩
      · obtain ⟨X, hX, hpl, hnext⟩ := key.out (fun h => absurd h hlt2)
        obtain ⟨fn, tmps, assign, body, hy, hR⟩ := HY.out pre X wr HS.out.j hpl
        dsimp only [encR] at hy
        rw [hX] at hy
        dsimp only at hy
        rw [show ((m + 1 : Nat) : Int) = (m : Int) + 1 by omega] at hy
        have HR := Lib.hid hR
        have HN := Lib.hid hnext
        have hi2 : ¬ ((k : Int) + 1 < zs.length) := by omega
        clear HS HG HE HY key hx hR hnext hX hpl
        gi_wp2
        refine HR.out.mono ?_
        rintro e W5 (⟨rfl, hj, hk5⟩ | ⟨rfl, hjx⟩)
        · have T3 := Lib.hid (HN.out W5 hj hk5)
          clear hj hk5 HN HR hy
          gi_wp2
          go_roundw
          case rel => exact ⟨0, k + 1, k + 1, ⟨#[]⟩, _, by omega, by omega, rfl, by go_num, T3⟩
          case measure => simp [intOf]; omega
        · gi_wp2
          refine bodyPost_ret (results_none rfl _ _ _) rfl ?_
          exact ⟨⟨_, rfl⟩, .inr ⟨_, trivial, hjx⟩⟩
    · have HF : Hid (vals pre = rle zs ∧ J pre wr) := by
        have hst : st = k := by
          rcases Nat.lt_or_ge st k with h | h
          · exact absurd (HS.out.on h).1 hlt
          · have := HS.out.le; omega
        have hq := HS.out.eq
        rw [List.drop_eq_nil_of_le (by omega)] at hq
        exact ⟨by rw [hq]; simp [rle], HS.out.j⟩
      clear HS HY
      gi_wp2
      go_end0
      exact ⟨⟨_, rfl⟩, .inl ⟨_, HF.out.1, HF.out.2⟩⟩
/-- A block that no row of bytes of the call's own can be. -/
def Far (B b : Nat) (w : World) : Prop := b < w.heap.size ∧ (b < B ∨ ∃ cs ty fz, w.heap[b]? = some (.cells cs ty fz) ∧ ty ≠ 5)
theorem Far.ne {B b : Nat} {w : World} {v : Value} {t : List UInt8} (h : Far B b w) (hO : OwnBy B w v t) : some b ≠ v.ownBlock := by
  rcases hO.2 with ⟨rfl, _⟩ | ⟨g, cap, cur, rfl, hb, hg, _⟩
  · simp [Value.ownBlock]
  · intro e
    obtain rfl : b = g := by simpa [Value.ownBlock] using e
    rcases h.2 with h | ⟨cs, ty, fz, h1, h2⟩
    · omega
    · rw [hg] at h1
      cases h1
      exact h2 rfl
theorem Far.kept {B b : Nat} {w w' : World} (h : Far B b w) (hk : w'.heap[b]? = w.heap[b]?) (hs : w.heap.size ≤ w'.heap.size) : Far B b w' :=
  ⟨Nat.lt_of_lt_of_le h.1 hs, h.2.imp id fun ⟨cs, ty, fz, h1, h2⟩ => ⟨cs, ty, fz, hk.trans h1, h2⟩⟩
theorem Far.row {B b : Nat} {w w' : World} {v : Value} {t : List UInt8} (h : Far B b w) (hO : OwnBy B w v t) (hg : w.grownBy w' v.ownBlock) : w'.heap[b]? = w.heap[b]? := hg.block b h.1 (h.ne hO)
theorem Far.boxed {B b : Nat} {w : World} {ty : TypeId} {v : Value} (h : Boxed w b ty v) (hn : ty ≠ 5) : Far B b w := ⟨h.lt, .inr ⟨_, _, _, h, hn⟩⟩
theorem runs_in (dp : Nat) (a : Option Addr) (n c : Nat) (w : World) :
    CallsIn Fence.wide dp Try.prog 76 #[.slice a n c] w fun e w' => e = .returned (.func (.func 92) #[] #[.pointer (some ⟨w.heap.size, 0, none⟩)]) ∧ w' = w.alloc (.cells #[.slice a n c] 22) := by
  refine callsIn_of_wp Try.func76 rfl trivial ?_ rfl
  simp only [Try.ntmps76, List.size_toArray, List.length_cons, List.length_nil, Nat.reduceAdd, Nat.reduceSub, Array.replicate_succ, Array.replicate_zero, List.push_toArray, List.append_toArray, List.nil_append, List.cons_append]
  gi_wp2
  go_ret
  exact ⟨rfl, rfl⟩
theorem runs_stops (d : List BA) (dp : Nat) (hn : 1 ≤ dp) (b1 b2 o c : Nat) (a : Option Addr) (zs : List BA) (hl : zs.length ≤ 100000) (hz : ∀ x ∈ zs, x ∈ d) (w : World) (h1 : b1 < w.heap.size) (h2 : b2 < w.heap.size) (hL : Lies b1 b2 o c a zs w) :
    SeqStopsK Fence.wide dp Try.prog 92 #[.pointer (some ⟨b2, 0, none⟩)] (encR (d := d)) (KK b1 b2) (fun ys => vals ys = rle zs) (fun _ => True) (rle zs).length w := fun l J Jx W hW hJ hJx hY hj =>
  runs1_in d dp hn l b1 b2 o c a zs hl hz J Jx hY W (hL.kept ⟨hW.block b1 h1, hW.block b2 h2⟩) hj
theorem prunB_len {d : List BA} (hd : d.length ≤ 100000) : ∀ r : List (RS d), (runB d (vals r)).length ≤ 18 * r.length
  | [] => Nat.le_refl _
  | x :: r => by
    have h1 := prunB_len hd r
    obtain ⟨i, hi, hil, _⟩ := idxI_mem x.2.1
    have h2 := uv_len9 (m := i) (by omega)
    have h3 := uv_len9 (m := x.1.2 - 1) (by have := x.2.2.2; omega)
    unfold vals at h1 ⊢
    rw [List.map_cons, show x.1 = (x.1.1, x.1.2) from rfl, runB_cons, hi, Int.toNat_natCast, List.length_append, List.length_append, List.length_cons]
    unfold uv
    omega
theorem prunB_snoc {d : List BA} (r : List (RS d)) (x : RS d) : runB d (vals (r ++ [x])) = runB d (vals r) ++ uv (idxI x.1.1 d).toNat ++ uv (x.1.2 - 1) := by
  rw [vals_snoc]
  unfold runB
  rw [List.flatMap_append, List.append_assoc]
  simp
theorem kk_own {d : List BA} {b1 b2 : Nat} {w : World} (h1 : b1 < w.heap.size) (h2 : b2 < w.heap.size) : OwnFrom w.heap.size (fun (_ : List (RS d)) W => KK b1 b2 w W) := fun s X Y row hs hg hr => by
  have key : ∀ b, b < w.heap.size → X.heap[b]? = w.heap[b]? → Y.heap[b]? = w.heap[b]? := fun b hb he => by
    have hX : b < X.heap.size := by
      rw [Array.getElem?_eq_getElem hb] at he
      exact (Array.getElem?_eq_some_iff.1 he).1
    exact (hg.block b hX (fun e => by have := (hr b e.symm).1; omega)).trans he
  exact ⟨key b1 h1 hs.1, key b2 h2 hs.2⟩
theorem row_cells {B : Nat} {w : World} {v : Value} {t : List UInt8} (h : OwnBy B w v t) : ∀ (j : Nat) (o : Obj), v.ownBlock = some j → w.heap[j]? = some o → o.isCells = true := fun j o ej hj => by
  rcases h.2 with ⟨rfl, _⟩ | ⟨g, cap, cur, rfl, _, hg, _⟩
  · simp [Value.ownBlock] at ej
  · obtain rfl : g = j := by simpa [Value.ownBlock] using ej
    rw [hg] at hj
    cases hj
    rfl

end Go.Proofs.Ytpinmmmbmhfmiaa.Dt
