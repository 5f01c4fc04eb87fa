
/- Layer 6: how many states an expression has; the reference's states in memory. Layer 6: the reference's machine in memory. Layer 6: compile of the reference: leaves, sequences. Layer 6: compile of the reference: repetitions. Layer 6: compile of the reference: alternatives; all of it. Layer 6: the reference's sets; empties. Layer 6: empties and reach of the reference. Layer 6: ends of the reference. Layer 6: Match of the reference; the walk of the law on matching. -/
import Derived.Test.YtdeppcddknakjaaGreatDoorCTm
import Derived.Lib.QuietBelow
import Derived.BigQuiet
import Derived.Test.YtdeppcddknakjaaGreatDoorCS
set_option maxRecDepth 100000
set_option linter.unusedVariables false
set_option linter.unusedSimpArgs false
namespace Go.Proofs.YtdeppcddknakjaaGreatDoor.Rx
open Go.RowKit
mutual
def sN : Re → Nat
 | .byte _ => 1
 | .cls _ => 1
 | .cat l => sL l
 | .alt l => sL l + 1
 | .star r => sN r + 1
 | .plus r => sN r + 1
def sL : List Re → Nat
 | [] => 0
 | r :: l => sN r + sL l
end
theorem sL_append : ∀ a b : List Re, sL (a ++ b) = sL a + sL b
 | [], b => by rw [List.nil_append, sL, Nat.zero_add]
 | r :: a, b => by rw [List.cons_append, sL, sL, sL_append a b, Nat.add_assoc]
theorem sL_one (r : Re) : sL [r] = sN r := by rw [sL, sL, Nat.add_zero]
theorem closed_is {x : Option (Re × List UInt8)} {n : Re} {r : List UInt8} (h : closed x = some (n, r)) : x = some (n, 41 :: r) := by
 match x with
 | none => cases h
 | some (m, []) => cases h
 | some (m, d :: q) =>
  rw [closed] at h
  split at h
  ·rename_i hd
   cases h
   rw [hd]
  ·cases h
theorem esc_cost {l r : List UInt8} {n : Re} (h : escReAt l = some (n, r)) : sN n = 1 := by
 cases l with
 | nil => cases h
 | cons d q =>
  rw [escReAt] at h
  unfold escRe at h
  split at h
  ·cases h; rfl
  ·split at h
   ·cases h; rfl
   ·cases he : esc d with
    | none => rw [he] at h; cases h
    | some x => rw [he] at h; cases h; rfl
theorem cls_cost {l r : List UInt8} {n : Re} (h : cls l = some (n, r)) : sN n = 1 := by
 cases l with
 | nil => cases h
 | cons c q =>
  rw [cls] at h
  split at h
  ·cases hb : brk (q.length + 1) none_ true q with
   | none => rw [hb] at h; cases h
   | some x => rw [hb] at h; cases h; rfl
  ·cases hb : brk (q.length + 2) none_ true (c :: q) with
   | none => rw [hb] at h; cases h
   | some x => rw [hb] at h; cases h; rfl
theorem atom_cost {p : List UInt8 → Option (Re × List UInt8)} (hp : ∀ l n r, p l = some (n, r) → sN n + 2 * r.length ≤ 1 + 2 * l.length) {l r : List UInt8} {n : Re} (h : atom p l = some (n, r)) : sN n + 2 * r.length + 1 ≤ 2 * l.length := by
 cases l with
 | nil => cases h
 | cons c l =>
  rw [atom] at h
  rw [List.length_cons]
  split at h
  ·cases h; rw [sN]; omega
  ·split at h
   ·cases h; rw [sN]; omega
   ·split at h
    ·have h1 := escReAt_len h; have h2 := esc_cost h; omega
    ·split at h
     ·have h1 := cls_len h; have h2 := cls_cost h; omega
     ·split at h
      ·have := hp _ _ _ (closed_is h)
       rw [List.length_cons] at this
       omega
      ·cases h
theorem rep_cost (n : Re) (c : UInt8) : sN (repRe n c) = sN n + 1 := by
 unfold repRe
 split
 ·rw [sN]
 ·split
  ·rw [sN]
  ·rw [sN, sL, sL_one, sN, sL, Nat.zero_add]
theorem post_cost {n n' : Re} {l r : List UInt8} (h : post n l = some (n', r)) : sN n' + 2 * r.length ≤ sN n + 2 * l.length := by
 match l with
 | [] => cases h; exact Nat.le_refl _
 | [c] =>
  rw [post] at h
  split at h
  ·cases h; rw [rep_cost]; simp
  ·cases h; exact Nat.le_refl _
 | c :: d :: q =>
  rw [post] at h
  split at h
  ·split at h
   ·cases h
   ·cases h; rw [rep_cost]; simp only [List.length_cons]; omega
  ·cases h; exact Nat.le_refl _
theorem alt_cost (outs now : List Re) : sN (.alt (outs ++ [.cat now])) = sL outs + sL now + 1 := by rw [sN, sL_append, sL_one, sN]
theorem pe_cost : ∀ (k : Nat) (outs now : List Re) (l : List UInt8) (n : Re) (r : List UInt8), pe k outs now l = some (n, r) → sN n + 2 * r.length ≤ 1 + sL outs + sL now + 2 * l.length
 | 0, _, _, _, _, _, h => by cases h
 | k + 1, outs, now, [], n, r, h => by cases h; rw [alt_cost]; simp only [List.length_nil]; omega
 | k + 1, outs, now, c :: l, n, r, h => by
  rw [pe] at h
  split at h
  ·cases h; rw [alt_cost]; omega
  ·split at h
   ·have := pe_cost k _ _ l n r h
    rw [sL_append, sL_one, sN, sL] at this
    rw [List.length_cons]
    omega
   ·cases ha : atom (pe k [] []) (c :: l) with
    | none => rw [ha] at h; cases h
    | some q =>
     obtain ⟨m, r1⟩ := q
     rw [ha] at h
     simp only at h
     cases hq : post m r1 with
     | none => rw [hq] at h; cases h
     | some q =>
      obtain ⟨m', r2⟩ := q
      rw [hq] at h
      simp only at h
      have h1 := atom_cost (fun l n r h => by have := pe_cost k [] [] l n r h; simpa [sL] using this) ha
      have h2 := post_cost hq
      have h3 := pe_cost k _ _ r2 n r h
      rw [sL_append, sL_one] at h3
      omega
theorem parse_cost {l : List UInt8} {r : Re} (h : parse l = some r) : sN r ≤ 1 + 2 * l.length := by
 rw [parse_ex] at h
 cases hx : ex [] [] l with
 | none => rw [hx] at h; cases h
 | some q =>
  obtain ⟨n, t⟩ := q
  rw [hx] at h
  cases t with
  | nil =>
   cases h
   have := pe_cost _ [] [] l _ _ hx
   simpa [sL] using this
  | cons c t => cases h
mutual
theorem comp_len : ∀ (r : Re) (m : List St) (nx : Nat), (comp r m nx).2.length = m.length + sN r
 | .byte c, m, nx => by rw [comp, sN]; simp
 | .cls f, m, nx => by rw [comp, sN]; simp
 | .cat l, m, nx => by rw [comp, sN]; exact compC_len l m nx
 | .alt l, m, nx => by rw [comp, sN]; simp [compA_len l m nx]; omega
 | .star r, m, nx => by rw [comp, sN]; simp [comp_len r]; omega
 | .plus r, m, nx => by rw [comp, sN]; simp [comp_len r]; omega
theorem compC_len : ∀ (l : List Re) (m : List St) (nx : Nat), (compC l m nx).2.length = m.length + sL l
 | [], m, nx => by rw [compC, sL]; rfl
 | r :: l, m, nx => by rw [compC, sL, comp_len r, compC_len l]; omega
theorem compA_len : ∀ (l : List Re) (m : List St) (nx : Nat), (compA l m nx).2.length = m.length + sL l
 | [], m, nx => by rw [compA, sL]; rfl
 | r :: l, m, nx => by rw [compA, sL, compA_len l, comp_len r]; omega
end
/-! States in memory. -/
def stL (b : Bool) (f : UInt8 → Bool) (v : Value) : List Value := .bool b :: (clsC f ++ [v])
theorem stL_len (b : Bool) (f : UInt8 → Bool) (v : Value) : (stL b f v).length = 258 := by unfold stL; rw [List.length_cons, List.length_append, clsC_len]; rfl
theorem stL_0 (b : Bool) (f : UInt8 → Bool) (v : Value) : (stL b f v)[0]? = some (.bool b) := rfl
theorem stL_set (b : Bool) (f : UInt8 → Bool) (v : Value) {j : Nat} (h : j < 256) : (stL b f v)[1 + j]? = some (.bool (f (UInt8.ofNat j))) := by
 unfold stL
 rw [Nat.add_comm, List.getElem?_cons_succ, List.getElem?_append_left (by rw [clsC_len]; exact h)]
 exact clsC_at f h
theorem stL_tl (b : Bool) (f : UInt8 → Bool) (v : Value) : (stL b f v)[257]? = some v := by
 unfold stL
 rw [show 257 = 256 + 1 by rfl, List.getElem?_cons_succ, List.getElem?_append_right (by rw [clsC_len]; omega), clsC_len]
 rfl
theorem stL_w (b : Bool) (f : UInt8 → Bool) (v v' : Value) : (stL b f v).set 257 v' = stL b f v' := by
 unfold stL
 rw [List.set_cons_succ, List.set_append, if_neg (by rw [clsC_len]; omega), clsC_len]
 rfl
theorem stL_one (b : Bool) (f : UInt8 → Bool) {v : Value} (h : v.oneCell' = true) : ∀ u ∈ stL b f v, u.oneCell' = true := by
 intro u hu
 unfold stL at hu
 rcases List.mem_cons.1 hu with rfl | hu
 ·rfl
 ·rcases List.mem_append.1 hu with hu | hu
  ·exact clsC_one f u hu
  ·rw [List.mem_singleton] at hu; rw [hu]; exact h
theorem info80 : (Tryz.prog.info? 149).map (fun i => (i.zero, i.size, i.bytes)) = some (some (.agg (stL false none_ (.slice none 0 0)).toArray), 258, 288) := by kernel_rfl
theorem info80s : (Tryz.prog.info? 149).map (fun i => (i.zero, i.size)) = some (some (.agg (stL false none_ (.slice none 0 0)).toArray), 258) := by kernel_rfl
theorem built80 (vs : List (Nat × Value)) : Tryz.prog.built 149 vs = Instr.fill (#[(0, 1), (1, 256), (257, 1)][·]?) (stL false none_ (.slice none 0 0)).toArray vs := by kernel_rfl
theorem built_st0 : Tryz.prog.built 149 [] = some (stL false none_ (.slice none 0 0)).toArray := by rw [built80, fill_nil]
theorem built_st2 {v : Value} (hv : v.cells = #[v]) : Tryz.prog.built 149 [(2, v)] = some (stL false none_ v).toArray := by
 rw [built80, fill_cell (off := 257) rfl hv (by rw [stL_len]; omega), fill_nil, stL_w]
theorem built_read (f : UInt8 → Bool) (A : Option Addr) (n c : Nat) : Tryz.prog.built 149 [(0, .bool true), (1, .agg (clsC f).toArray), (2, .slice A n c)] = some (stL true f (.slice A n c)).toArray := by kernel_rfl
end Go.Proofs.YtdeppcddknakjaaGreatDoor.Rx
namespace Go.Proofs.YtdeppcddknakjaaGreatDoor.Rx
open Go.RowKit
/-- The numbers that a slice holds. -/
def NumV (w : World) (T : Nat → Prop) (A : Option Addr) (l : List Nat) : Prop := l ≠ [] → ∃ g, A = some ⟨g, 0, none⟩ ∧ T g ∧ ∀ j (h : j < l.length), w.cell? ⟨g, j, none⟩ = some (.int .i64 (l[j] : Nat))
theorem NumV.keep {w w' : World} {T T' : Nat → Prop} {A : Option Addr} {l : List Nat} (h : NumV w T A l) (hT : ∀ k, T k → T' k) (hk : ∀ b j, T b → w'.cell? ⟨b, j, none⟩ = w.cell? ⟨b, j, none⟩) : NumV w' T' A l := fun hl => by
 obtain ⟨g, h1, h2, h3⟩ := h hl
 exact ⟨g, h1, hT g h2, fun j hj => (hk g j h2).trans (h3 j hj)⟩
/-- A state in memory. -/
def StV (w : World) (T : Nat → Prop) (C : List Value) (x : St) : Prop := ∃ A cap, C = stL x.reads x.set (.slice A x.next.length cap) ∧ x.next.length ≤ 1100 ∧ NumV w T A x.next
theorem StV.keep {w w' : World} {T T' : Nat → Prop} {C : List Value} {x : St} (h : StV w T C x) (hT : ∀ k, T k → T' k) (hk : ∀ b j, T b → w'.cell? ⟨b, j, none⟩ = w.cell? ⟨b, j, none⟩) : StV w' T' C x := by
 obtain ⟨A, cap, h1, h2, h3⟩ := h
 exact ⟨A, cap, h1, h2, h3.keep hT hk⟩
theorem StV.len {w : World} {T : Nat → Prop} {C : List Value} {x : St} (h : StV w T C x) : C.length = 258 ∧ ∀ v ∈ C, v.oneCell' = true := by
 obtain ⟨A, cap, rfl, _⟩ := h
 exact ⟨stL_len _ _ _, stL_one _ _ rfl⟩
/-- States as cells. -/
def StsL (w : World) (T : Nat → Prop) (xs : List Value) (M : List St) : Prop := xs.length = M.length * 258 ∧ ∀ j (hj : j < M.length), ∃ C, (∀ i v, C[i]? = some v → xs[j * 258 + i]? = some v) ∧ StV w T C M[j]
theorem StsL.nil (w : World) (T : Nat → Prop) : StsL w T [] [] := ⟨rfl, fun j hj => by simp at hj⟩
theorem StsL.keep {w w' : World} {T T' : Nat → Prop} {xs : List Value} {M : List St} (h : StsL w T xs M) (hT : ∀ k, T k → T' k) (hk : ∀ b j, T b → w'.cell? ⟨b, j, none⟩ = w.cell? ⟨b, j, none⟩) : StsL w' T' xs M :=
 ⟨h.1, fun j hj => by
  obtain ⟨C, h1, h2⟩ := h.2 j hj
  exact ⟨C, h1, h2.keep hT hk⟩⟩
theorem StsL.snoc {w : World} {T : Nat → Prop} {xs C : List Value} {M : List St} {x : St} (h : StsL w T xs M) (hp : StV w T C x) : StsL w T (xs ++ C) (M ++ [x]) := by
 refine ⟨by rw [List.length_append, h.1, hp.len.1, List.length_append, List.length_singleton, Nat.add_mul], fun j hj => ?_⟩
 rw [List.length_append, List.length_singleton] at hj
 rcases Nat.lt_or_ge j M.length with hlt | hge
 ·obtain ⟨D, h1, h2⟩ := h.2 j hlt
  refine ⟨D, fun i v hv => ?_, by rw [List.getElem_append_left hlt]; exact h2⟩
  have := h1 i v hv
  rw [List.getElem?_append_left (List.getElem?_eq_some_iff.1 this).1]
  exact this
 ·obtain rfl : j = M.length := by omega
  refine ⟨C, fun i v hv => ?_, by rw [List.getElem_append_right (Nat.le_refl _)]; simpa using hp⟩
  rw [List.getElem?_append_right (by rw [h.1]; omega), h.1, Nat.add_sub_cancel_left]
  exact hv
theorem StsL.set {w : World} {T : Nat → Prop} {xs : List Value} {M : List St} {k : Nat} (h : StsL w T xs M) (hk : k < M.length) {A : Option Addr} {cap : Nat} {l : List Nat} (hl : l.length ≤ 1100) (hn : NumV w T A l) :
  StsL w T (xs.set (k * 258 + 257) (.slice A l.length cap)) (M.set k ⟨M[k].reads, M[k].set, l⟩) := by
 refine ⟨by rw [List.length_set, List.length_set]; exact h.1, fun j hj => ?_⟩
 rw [List.length_set] at hj
 obtain ⟨D, h1, h2⟩ := h.2 j hj
 by_cases hjk : k = j
 ·subst hjk
  obtain ⟨A2, cap2, rfl, _, _⟩ := h2
  refine ⟨stL M[k].reads M[k].set (.slice A l.length cap), fun i v hv => ?_, by rw [List.getElem_set_self]; exact ⟨A, cap, rfl, hl, hn⟩⟩
  rw [← stL_w _ _ (.slice A2 M[k].next.length cap2)] at hv
  by_cases hi : i = 257
  ·subst hi
   rw [List.getElem?_set_self (by rw [stL_len]; omega)] at hv
   rw [List.getElem?_set_self (by rw [h.1]; omega)]
   exact hv
  ·rw [List.getElem?_set_ne (by omega)] at hv
   rw [List.getElem?_set_ne (by omega)]
   exact h1 i v hv
 ·refine ⟨D, fun i v hv => ?_, by rw [List.getElem_set_ne hjk]; exact h2⟩
  have hi := (List.getElem?_eq_some_iff.1 hv).1
  rw [h2.len.1] at hi
  rw [List.getElem?_set_ne (by omega)]
  exact h1 i v hv
/-- The blocks that a machine's states lead to. -/
def TM (w : World) (B : Nat) (v : Value) (n : Nat) : Prop := B ≤ n ∧ n < w.heap.size ∧ some n ≠ v.ownBlock
/-- A machine: the slice v holds the states M; what they lead to lies in T; all of it from block B on. -/
structure MaV (w : World) (B : Nat) (v : Value) (T : Nat → Prop) (M : List St) (xs : List Value) : Prop where
 row : w.ownsRow B 149 258 v M.length xs
 sts : StsL w T xs M
 sub : ∀ n, T n → TM w B v n
 le : B ≤ w.heap.size
/-- T' holds T, and blocks laid since w. -/
def Tg (T : Nat → Prop) (w : World) (T' : Nat → Prop) : Prop := (∀ n, T n → T' n) ∧ ∀ n, T' n → T n ∨ w.heap.size ≤ n
theorem Tg.refl (T : Nat → Prop) (w : World) : Tg T w T := ⟨fun _ h => h, fun _ h => .inl h⟩
theorem Tg.trans {T T1 T2 : Nat → Prop} {w w1 : World} (h : Tg T w T1) (k : Tg T1 w1 T2) (hs : w.heap.size ≤ w1.heap.size) : Tg T w T2 :=
 ⟨fun n hn => k.1 n (h.1 n hn), fun n hn => (k.2 n hn).elim (h.2 n) (fun hn => .inr (Nat.le_trans hs hn))⟩
section
variable {w w2 w3 : World} {B : Nat} {v v' : Value} {T T1 : Nat → Prop} {M : List St} {xs C : List Value} {x : St}
theorem MaV.lt (h : MaV w B v T M xs) : ∀ g, v.ownBlock = some g → B ≤ g ∧ g < w.heap.size := World.ownsRow.lt h.row
theorem MaV.below {w' : World} (h : MaV w B v T M xs) (hb : Below w.heap.size w w') : MaV w' B v T M xs := by
 have k : But (fun _ => False) w w' := But.of_below hb
 exact ⟨h.row.on_but k (fun _ _ => id), h.sts.keep (fun _ hn => hn) (fun b j hb2 => k.cell (p := ⟨b, j, none⟩) (h.sub b hb2).2.1 id), fun n hn => ⟨(h.sub n hn).1, Nat.lt_of_lt_of_le (h.sub n hn).2.1 hb.size, (h.sub n hn).2.2⟩, Nat.le_trans h.le hb.size⟩
/-- Blocks change that are not the machine's. -/
theorem MaV.off {w' : World} {S : Nat → Prop} (h : MaV w B v T M xs) (k : But S w w') (h1 : ∀ g, v.ownBlock = some g → ¬ S g) (h2 : ∀ n, T n → ¬ S n) : MaV w' B v T M xs :=
 ⟨h.row.on_but k h1, h.sts.keep (fun _ hn => hn) (fun b j hb2 => k.cell (p := ⟨b, j, none⟩) (h.sub b hb2).2.1 (h2 b hb2)), fun n hn => ⟨(h.sub n hn).1, Nat.lt_of_lt_of_le (h.sub n hn).2.1 k.size, (h.sub n hn).2.2⟩, Nat.le_trans h.le k.size⟩
theorem MaV.form (h : MaV w B v T M xs) : ∃ A cap, v = .slice A M.length cap ∧ (M ≠ [] → ∃ g, A = some ⟨g, 0, none⟩) := by
 rcases h.row.2 with ⟨rfl, h0⟩ | ⟨g, cap, cur, rfl, _⟩
 ·exact ⟨none, 0, by rw [h0], fun hne => absurd (List.length_eq_zero_iff.1 h0) hne⟩
 ·exact ⟨_, _, rfl, fun _ => ⟨g, rfl⟩⟩
/-- A state more. -/
theorem MaV.grow (h : MaV w B v T M xs) (hb2 : Below w.heap.size w w2) (hC : StV w2 T1 C x) (hT1 : ∀ n, T1 n → TM w2 B v n)
  (hown : w3.ownsRow B 149 258 v' (M.length + 1) (xs ++ C)) (hg : w2.grownBy w3 v.ownBlock) (hor : v'.ownBlock = v.ownBlock ∨ v'.ownBlock = some w2.heap.size) : MaV w3 B v' (fun n => T n ∨ T1 n) (M ++ [x]) (xs ++ C) := by
 have h2 := h.below hb2
 have hs : ∀ n, T n ∨ T1 n → TM w2 B v n := fun n hn => hn.elim (h2.sub n) (hT1 n)
 have hT : ∀ n, TM w2 B v n → TM w3 B v' n := fun n hn => ⟨hn.1, Nat.lt_of_lt_of_le hn.2.1 hg.size, fun e => by
  rcases hor with hor | hor
  ·exact hn.2.2 (e.trans hor)
  ·rw [hor] at e; injection e with e; have := hn.2.1; omega⟩
 have hk : ∀ b j, T b ∨ T1 b → w3.cell? ⟨b, j, none⟩ = w2.cell? ⟨b, j, none⟩ := fun b j hb => World.cell?_of_block (w := w2) (hg.block b (hs b hb).2.1 (hs b hb).2.2)
 exact ⟨by rw [List.length_append, List.length_singleton]; exact hown, ((h2.sts.keep (T' := fun n => T n ∨ T1 n) (fun _ h => .inl h) (fun _ _ _ => rfl)).snoc (hC.keep (fun _ h => .inr h) (fun _ _ _ => rfl))).keep (fun _ h => h) hk, fun n hn => hT n (hs n hn), Nat.le_trans h2.le hg.size⟩
end
/-- What follows state k is set. -/
theorem MaV.set {w w2 w3 : World} {B k g gn : Nat} {T : Nat → Prop} {M : List St} {xs : List Value} {l : List Nat} {n cap cap2 : Nat} {b : Bool} {f : UInt8 → Bool} {l0 : List Nat} (h : MaV w B (.slice (some ⟨g, 0, none⟩) n cap) T M xs) (hn : n = M.length) (hk : k < M.length) (hM : M[k] = ⟨b, f, l0⟩) (hl : l.length ≤ 1100)
  (hb2 : Below w.heap.size w w2) (hgn : w.heap.size ≤ gn ∧ gn < w2.heap.size) (hcs : ∀ j (h : j < l.length), w2.cell? ⟨gn, j, none⟩ = some (.int .i64 (l[j] : Nat)))
  (he : w2.setCell ⟨g, k * 258 + 257, none⟩ (.slice (some ⟨gn, 0, none⟩) l.length cap2) = w3) : MaV w3 B (.slice (some ⟨g, 0, none⟩) n cap) (fun m => T m ∨ m = gn) (M.set k ⟨b, f, l⟩) (xs.set (k * 258 + 257) (.slice (some ⟨gn, 0, none⟩) l.length cap2)) := by
 subst he
 subst hn
 have h2 := h.below hb2
 have hlt := h.lt g rfl
 have hs := World.ownsRow.stored h2.row (k * 258 + 257) (.slice (some ⟨gn, 0, none⟩) l.length cap2)
 have hN : NumV w2 (fun m => T m ∨ m = gn) (some ⟨gn, 0, none⟩) l := fun _ => ⟨gn, rfl, .inr rfl, hcs⟩
 have hsub : ∀ m, T m ∨ m = gn → TM w2 B (.slice (some ⟨g, 0, none⟩) M.length cap) m := fun m hm => hm.elim (h2.sub m) (fun e => ⟨by have := h.le; omega, by rw [e]; exact hgn.2, fun e2 => by (have e2 : some m = some g := e2); injection e2 with e2; omega⟩)
 have hst := (h2.sts.keep (T' := fun m => T m ∨ m = gn) (fun _ h => .inl h) (fun _ _ _ => rfl)).set hk (cap := cap2) hl hN
 rw [hM] at hst
 refine ⟨by rw [List.length_set]; exact hs.1, hst.keep (fun _ h => h) (fun b j hb => ?_), fun m hm => ⟨(hsub m hm).1, by rw [World.size_setCell]; exact (hsub m hm).2.1, (hsub m hm).2.2⟩, by rw [World.size_setCell]; exact h2.le⟩
 exact World.cell?_of_block (w := w2) (hs.2.block b (hsub b hb).2.1 (hsub b hb).2.2)
set_option maxRecDepth 100000 in
/-- What state j holds. -/
theorem MaV.at_ {w : World} {B g n cap : Nat} {T : Nat → Prop} {M : List St} {xs : List Value} (h : MaV w B (.slice (some ⟨g, 0, none⟩) n cap) T M xs) (hn : n = M.length) {j : Nat} (hj : j < M.length) :
  ∃ A cap2, NumV w T A M[j].next ∧ M[j].next.length ≤ 1100 ∧ w.cell? ⟨g, j * 258, none⟩ = some (.bool M[j].reads) ∧ (∀ c : UInt8, w.cell? ⟨g, j * 258 + 1 + c.toNat, none⟩ = some (.bool (M[j].set c))) ∧ w.cell? ⟨g, j * 258 + 257, none⟩ = some (.slice A M[j].next.length cap2) := by
 subst hn
 obtain ⟨C, h1, A, cap2, rfl, h2, h3⟩ := h.sts.2 j hj
 have hc : ∀ i v, (stL M[j].reads M[j].set (.slice A M[j].next.length cap2))[i]? = some v → w.cell? ⟨g, j * 258 + i, none⟩ = some v := fun i v hv => by
  have hi := (List.getElem?_eq_some_iff.1 hv).1
  rw [stL_len] at hi
  exact (World.ownsRow.cellAt h.row (j * 258 + i) (by have : (j + 1) * 258 ≤ M.length * 258 := Nat.mul_le_mul_right _ hj; omega)).trans (h1 i v hv)
 refine ⟨A, cap2, h3, h2, hc 0 _ (stL_0 _ _ _), fun c => ?_, hc 257 _ (stL_tl _ _ _)⟩
 have := hc (1 + c.toNat) _ (stL_set _ _ _ c.toNat_lt)
 rw [UInt8.ofNat_toNat] at this
 rw [Nat.add_assoc]
 exact this
end Go.Proofs.YtdeppcddknakjaaGreatDoor.Rx
namespace Go.Proofs.YtdeppcddknakjaaGreatDoor.Rx
open Go.RowKit
section
variable {P : Program}
/-- A slice of one value of one cell. -/
theorem wpList_bs_one {ops : Array Oper} {rest : List Oper} {o : Oper} {a : Act} {w : World} {Q : Exit → Act → World → Prop} (hgd : o.guard = none) (t e : TypeId) (x : Operand) (ho : o.op = .buildSlice t 1 #[(0, x)])
  (u : Value) (hx : a.eval x = u) (hc : u.cells = #[u]) (z : Value)
  (hu : P.underlying t = some (.slice e)) (hi : (P.info? e).map (fun i => (i.zero, i.size)) = some (some z, 1))
  (h : ∀ g w', Hid (w.heap.size = g) → Hid (Blk w' g e [u]) → Hid (Below w.heap.size w w') → Hid (w'.heap.size = g + 1) → wpList P ops Q rest (a.put o.dst (.slice (some ⟨g, 0, none⟩) 1 1)) w') : wpList P ops Q (o :: rest) a w := by
 cases hq : P.info? e with
 | none => rw [hq] at hi; cases hi
 | some ie =>
  rw [hq] at hi
  simp only [Option.map_some, Option.some.injEq, Prod.mk.injEq] at hi
  obtain ⟨hz, hs⟩ := hi
  refine Go.wpList_buildSlice hgd t e 1 #[(0, x)] ho [u].toArray ie z hu hq hz (by rw [hs]; omega) (by rw [hs]; omega) ?_ (h w.heap.size _ rfl (Blk.new w e [u]) ((Below.refl _ _).alloc (Nat.le_refl _) _) (by show (World.alloc _ _).heap.size = _; rw [World.size_alloc]))
  rw [hs]
  have e0 : (#[(0, x)].map fun ((i, x) : Nat × Operand) => (i, a.eval x)).toList = [(0, a.eval x)] := by simp
  rw [e0, hx]
  have := Great.fill_whole (s := 1) (by omega) [u] ((Array.range (1 * 1)).map (z.cells[· % z.cells.size]!)) (fun v hv => by simp only [List.mem_singleton] at hv; rw [hv, hc]; rfl) (by simp)
  simpa [hc] using this
end
theorem info3s : (Tryz.prog.info? 3).map (fun i => (i.zero, i.size)) = some (some (.int .i64 0), 1) := by kernel_rfl
/-- What compile returns. -/
def CmpQ (i : Nat) (M' : List St) (B : Nat) (v : Value) (T : Nat → Prop) (w : World) (e : Ending) (w' : World) : Prop := ∃ v' xs T', e = .returned (.tuple #[.int .i64 (i : Int), v']) ∧ Hid (MaV w' B v' T' M' xs) ∧ Hid (Tg T w T') ∧ Hid (But (fun k => some k = v.ownBlock) w w') ∧ Hid (RowTo w v v')
def Cmp45 (r : Re) : Prop := ∀ (T : Nat → Prop) (C : List Value) (B : Nat) (v : Value) (T0 : Nat → Prop) (M : List St) (xs : List Value) (nx : Nat) (w : World), ReV w T C r → (∀ n, T n → n < B) → MaV w B v T0 M xs → M.length + sN r ≤ 100000 → Calls Tryz.prog 136 #[.agg C.toArray, v, .int .i64 (nx : Int)] w (CmpQ (comp r M nx).1 (comp r M nx).2 B v T0 w)
theorem But.rowv {w w1 w2 : World} {v v1 : Value} (h : But (fun k => some k = v.ownBlock) w w1) (k : But (fun k => some k = v1.ownBlock) w1 w2) (hr : RowTo w v v1) : But (fun k => some k = v.ownBlock) w w2 := h.trans k (fun n hn hs => by
 rcases hr with e | e
 ·exact hs.trans e
 ·have := e n hs.symm; omega)
theorem row_to {w w1 : World} {v v' : Value} (hor : v'.ownBlock = v.ownBlock ∨ v'.ownBlock = some w1.heap.size) (h : w.heap.size ≤ w1.heap.size) : RowTo w v v' := by
 rcases hor with e | e
 ·exact .inl e
 ·exact .inr (fun k hk => by rw [e] at hk; injection hk with hk; omega)
set_option maxHeartbeats 4000000 in
set_option maxRecDepth 100000 in
theorem compile_leaf (f : UInt8 → Bool) (s : Bool) (B : Nat) (v : Value) (T0 : Nat → Prop) (M : List St) (xs : List Value) (nx : Nat) (w : World) (hm : MaV w B v T0 M xs) (hM : M.length ≤ 100000) : Calls Tryz.prog 136 #[.agg (nodL 1 f s (.slice none 0 0)).toArray, v, .int .i64 (nx : Int)] w (CmpQ M.length (M ++ [⟨true, f, [nx]⟩]) B v T0 w) := by
 obtain ⟨ii, hI, hz0, hz1, hz2⟩ := info_parts info80
 have HI := Lib.hid hI
 have HZ0 := Lib.hid hz0
 have HZ1 := Lib.hid hz1
 have HZ2 := Lib.hid hz2
 have IS := Lib.hid info80s
 have HZS : Hid ((Value.agg (stL false none_ (.slice none 0 0)).toArray).cells.size = 258) := by show (Value.agg (stL false none_ (.slice none 0 0)).toArray).cells.size = 258; simp [Value.cells, stL_len]
 clear hI hz0 hz1 hz2
 generalize Value.agg (stL false none_ (.slice none 0 0)).toArray = zz at HZ0 IS HZS
 obtain ⟨C, hC⟩ : ∃ C, C = nodL 1 f s (.slice none 0 0) := ⟨_, rfl⟩
 rw [← hC]
 obtain ⟨D, hD⟩ : ∃ D, D = clsC f := ⟨_, rfl⟩
 obtain ⟨S, hS⟩ : ∃ S : Nat → List Value, S = fun g => stL true f (.slice (some ⟨g, 0, none⟩) 1 1) := ⟨_, rfl⟩
 have HDL : Hid (D.length = 256) := by rw [hD]; exact clsC_len _
 have k1 : Hid (Blk (w.alloc (.cells C.toArray 102)) w.heap.size 102 C) := Blk.new w 102 C
 have b1 : Hid (Below w.heap.size w (w.alloc (.cells C.toArray 102))) := (Below.refl _ _).alloc (Nat.le_refl _) _
 have c0 : (w.alloc (.cells C.toArray 102)).cell? ⟨w.heap.size, 0, none⟩ = some (.int .i64 1) := (k1.out.cell 0).trans (by rw [hC]; exact nodL_0 _ _ _ _)
 have RG : Hid ((w.alloc (.cells C.toArray 102)).rangeAt w.heap.size 1 D) := fun j v hv => (k1.out.cell (1 + j)).trans (by
  have hj : j < D.length := (List.getElem?_eq_some_iff.1 hv).1
  rw [hC, nodL, Nat.add_comm, List.getElem?_cons_succ, List.getElem?_append_left (by rw [← hD]; exact hj), ← hD]
  exact hv)
 have HB : Hid (∀ g, Tryz.prog.built 149 [(0, .bool true), (1, .agg D.toArray), (2, .slice (some ⟨g, 0, none⟩) 1 1)] = some (S g).toArray) := by rw [hD, hS]; exact fun g => built_read f _ _ _
 have HS1 : Hid (∀ g, (S g).length = 258 ∧ ∀ u ∈ S g, u.oneCell' = true) := by rw [hS]; exact fun g => ⟨stL_len _ _ _, stL_one _ _ rfl⟩
 have HSE := Lib.hid hS
 have HMA := Lib.hid hm
 obtain ⟨A, cap, rfl, -⟩ := hm.form
 clear hC hD hS hm
 go_enter Tryz.func136, Tryz.ntmps136
 go_wp2_with (first
  | ((with_reducible refine wpList_load_abs (o := ⟨_, .load 99 (.tmp 22), _, _, _, _⟩) rfl 99 _ rfl w.heap.size 1 ?_ D RG.out _ Tryz.underlying99 rfl 256 size44 HDL.out ?_); (· rfl))
  | ((with_reducible refine wpList_bs_one (o := ⟨_, .buildSlice 57 1 #[(0, .tmp 24)], _, _, _, _⟩) rfl 57 3 _ rfl (.int .i64 (nx : Int)) ?_ rfl (.int .i64 0) Tryz.underlying57 info3s ?_); (· rfl); intro g3 w3 e3 k3 b3 s3)
  | ((with_reducible refine wpList_build_abs (o := ⟨_, .build 149 _, _, _, _, _⟩) rfl 149 _ rfl [(0, .bool true), (1, .agg D.toArray), (2, .slice (some ⟨g3, 0, none⟩) 1 1)] ?_ (S g3) (HB.out g3) ?_); (· first | (simp; done) | (simp only [List.map_toArray, List.map_cons, List.map_nil]; rfl) | (simp; exact ⟨rfl, rfl⟩)))
  | ((with_reducible refine wpList_buildSlice_abs (o := ⟨_, .buildSlice 145 1 #[(0, .tmp 26)], _, _, _, _⟩) rfl 145 149 _ rfl (S g3) ?_ 258 (HS1.out g3).1 (by decide) (by decide) zz Tryz.underlying145 IS.out ?_); (· rfl); intro g4 w4 e4 k4 b4 s4)
  | (at_builtin; refine wpList_append_own_at _ rfl (.tmp 21) (.tmp 27) 145 rfl B 149 ii zz 258 288 Tryz.underlying145 HI.out HZ0.out HZ1.out HZ2.out HZS.out (by decide) (.slice A M.length cap) M.length xs rfl ((HMA.out.below ((b1.out.trans (b3.out.mono b1.out.size)).trans (b4.out.mono (Nat.le_trans b1.out.size b3.out.size)))).row) ⟨g4, 0, none⟩ 1 1 (S g3) rfl (by rw [(HS1.out g3).1]) (fun j u hu => by have h := k4.out.range j u hu; rw [Nat.zero_add] at h; rw [Addr.add_mid, Nat.zero_add]; exact h) ((HS1.out g3).2) (by simp only [maxLen]; omega) (by omega) (by have := HMA.out.le; have := b1.out.size; have := b3.out.size; have := b4.out.size; omega) ?_; intro v5 w5 ho5 hg5 _ hor5; have O5 := Lib.hid ho5; have G5 := Lib.hid hg5; have OR5 := Lib.hid hor5; clear ho5 hg5 hor5))
 have hs1 := b1.out.size
 have hs3 := b3.out.size
 have hs4 := b4.out.size
 have B4 : Hid (Below w.heap.size w w4) := (b1.out.trans (b3.out.mono hs1)).trans (b4.out.mono (by omega))
 have HST : Hid (StV w4 (fun n => n = g3) (S g3) ⟨true, f, [nx]⟩) := by
  refine ⟨some ⟨g3, 0, none⟩, 1, by rw [HSE.out]; rfl, by simp, fun _ => ⟨g3, rfl, rfl, fun j hj => ?_⟩⟩
  obtain rfl : j = 0 := by simpa using hj
  exact (b4.out.cell (p := ⟨g3, 0, none⟩) k3.out.lt).trans (k3.out.cell 0)
 have NM := Lib.hid (HMA.out.grow B4.out HST.out (fun n (e : n = g3) => ⟨by have := HMA.out.le; have := e3.out; omega, by have := k3.out.lt; omega, fun h => by have := (HMA.out.lt n h.symm).2; have := e3.out; omega⟩) O5.out G5.out OR5.out)
 have NT : Hid (Tg T0 w (fun n => T0 n ∨ n = g3)) := ⟨fun n h => .inl h, fun n h => h.imp id (fun e => by have := e3.out; omega)⟩
 have NB := Lib.hid (grown_but B4.out G5.out).1
 have NR := Lib.hid (row_to (w := w) OR5.out B4.out.size)
 go_ret2
 exact ⟨_, _, _, rfl, NM, NT, NB, NR⟩
theorem cmp_byte (c : UInt8) : Cmp45 (.byte c) := fun T C B v T0 M xs nx w hr hT hm hl => by
 rw [ReV] at hr
 subst hr
 rw [comp]
 exact compile_leaf _ _ B v T0 M xs nx w hm (by omega)
theorem cmp_cls (f : UInt8 → Bool) : Cmp45 (.cls f) := fun T C B v T0 M xs nx w hr hT hm hl => by
 rw [ReV] at hr
 subst hr
 rw [comp]
 exact compile_leaf _ _ B v T0 M xs nx w hm (by omega)
theorem compC_drop (l : List Re) (M : List St) (nx : Nat) {k : Nat} (h : k < l.length) : compC (l.drop k) M nx = comp l[k] (compC (l.drop (k + 1)) M nx).2 (compC (l.drop (k + 1)) M nx).1 := by rw [drop_at l h, compC]
theorem sL_drop (l : List Re) {k : Nat} (h : k < l.length) : sL (l.drop k) = sN l[k] + sL (l.drop (k + 1)) := by rw [drop_at l h, sL]
theorem sL_drop_le (l : List Re) : ∀ k, sL (l.drop k) ≤ sL l
 | 0 => by rw [List.drop_zero]; exact Nat.le_refl _
 | k + 1 => by
  have := sL_drop_le l k
  by_cases h : k < l.length
  ·rw [sL_drop l h] at this; omega
  ·rw [List.drop_of_length_le (by omega), sL]; omega
set_option maxHeartbeats 4000000 in
set_option maxRecDepth 100000 in
theorem cmp_cat (l : List Re) (IH : ∀ r ∈ l, Cmp45 r) : Cmp45 (.cat l) := fun T C B v T0 M xs nx w hr hT hm hl => by
 rw [ReV] at hr
 obtain ⟨A, cap, hC, hll, hrow⟩ := hr
 rw [sN] at hl
 rw [comp]
 have k1 : Hid (Blk (w.alloc (.cells C.toArray 102)) w.heap.size 102 C) := Blk.new w 102 C
 have b1 : Hid (Below w.heap.size w (w.alloc (.cells C.toArray 102))) := (Below.refl _ _).alloc (Nat.le_refl _) _
 have s1 : Hid (w.heap.size < (w.alloc (.cells C.toArray 102)).heap.size) := by show _ < _; rw [World.size_alloc]; omega
 have C0 : Hid (C[0]? = some (.int .i64 2)) := by rw [hC]; exact nodL_0 _ _ _ _
 have C8 : Hid (C[258]? = some (.slice A l.length cap)) := by rw [hC]; exact (nodL_tl _ _ _ _).2
 have HROW := Lib.hid hrow
 have HT := Lib.hid hT
 have HIH := Lib.hid IH
 have HMA := Lib.hid hm
 have c0 : (w.alloc (.cells C.toArray 102)).cell? ⟨w.heap.size, 0, none⟩ = some (.int .i64 2) := (k1.out.cell 0).trans C0.out
 have c8 : (w.alloc (.cells C.toArray 102)).cell? ⟨w.heap.size, 258, none⟩ = some (.slice A l.length cap) := (k1.out.cell 258).trans C8.out
 have hl0 : (0 : Int) ≤ (l.length : Int) := Int.natCast_nonneg _
 clear hC hrow hT IH hm
 go_enter Tryz.func136, Tryz.ntmps136
 go_wp2_with fail
 clear c0 c8
 go_loopw [1, 2, 8] (fun v1 v2 vi wr => ∃ (j : Nat) (i : Int) (ys : List Value) (T1 : Nat → Prop), j ≤ l.length ∧ vi = .int .i64 i ∧ (j = 0 → i = -1) ∧ (∀ k, j = k + 1 → i = (k : Int)) ∧ v2 = .int .i64 ((compC (l.drop j) M nx).1 : Int) ∧ Hid (MaV wr B v1 T1 (compC (l.drop j) M nx).2 ys) ∧ Hid (Tg T0 w T1) ∧ Hid (But (fun k => some k = v.ownBlock) w wr) ∧ Hid (RowTo (w.alloc (.cells C.toArray 102)) v v1) ∧ Hid (Blk wr w.heap.size 102 C) ∧ Hid ((w.alloc (.cells C.toArray 102)).heap.size ≤ wr.heap.size)) (fun _ _ vi _ => (intOf vi + 1).toNat)
 case atStart =>
  refine ⟨l.length, _, xs, T0, Nat.le_refl _, rfl, fun h => by omega, fun k hk => by omega, ?_, ?_, Tg.refl _ _, But.of_below b1.out, RowTo.refl _ _, k1, Nat.le_refl _⟩
  ·rw [List.drop_of_length_le (Nat.le_refl _), compC]
  ·rw [List.drop_of_length_le (Nat.le_refl _), compC]
   exact HMA.out.below b1.out
 case round =>
  obtain ⟨j, i, ys, T1, hj, rfl, hi0, hi1, rfl, HM, HTg, HB, HR, HC, HZ⟩ := hrel
  have c8 : wr.cell? ⟨w.heap.size, 258, none⟩ = some (.slice A l.length cap) := (HC.out.cell 258).trans C8.out
  cases j with
  | zero =>
   obtain rfl := hi0 rfl
   clear hi0 hi1
   have HM' : Hid (MaV wr B u1 T1 (compC l M nx).2 ys) := HM
   go_wp2_with fail
   go_ret2
   exact ⟨_, _, _, rfl, HM', HTg, HB, HR.out.wk b1.out.size⟩
  | succ k =>
   obtain rfl := hi1 k rfl
   clear hi0 hi1
   have hlt : k < l.length := by omega
   have hk0 : (0 : Int) ≤ (k : Int) := Int.natCast_nonneg _
   have hlt' : (k : Int) < (l.length : Int) := by omega
   obtain ⟨g, rfl, hg, hrs⟩ := HROW.out (by intro e; rw [e] at hlt; simp at hlt)
   obtain ⟨D, hr0, hre⟩ := hrs.at_ k hlt
   rw [Nat.zero_add] at hr0
   have HTB : Hid (∀ n i, T n → wr.cell? ⟨n, i, none⟩ = w.cell? ⟨n, i, none⟩) := fun n i hn => HB.out.cell (p := ⟨n, i, none⟩) (Nat.lt_of_lt_of_le (HT.out n hn) HMA.out.le) (fun e => by have := (HMA.out.lt n e.symm).1; have := HT.out n hn; omega)
   have RD : Hid (wr.rangeAt g (k * 259) D) := rangeAt_keep hr0 (fun i => HTB.out g i hg)
   have HDL := Lib.hid hre.len
   have HE := Lib.hid (compC_drop l M nx hlt)
   have KC := Lib.hid (HIH.out l[k] (List.getElem_mem hlt) T D B u1 T1 _ ys (compC (l.drop (k + 1)) M nx).1 wr (hre.keep (fun _ h => h) (fun b i hb => HTB.out b i hb)) HT.out HM.out (by rw [compC_len]; have := sL_drop l hlt; have := sL_drop_le l k; omega))
   clear hr0 hre hrs
   go_wp2_with (first
    | ((with_reducible refine wpList_load_abs (o := ⟨_, .load 102 (.tmp 44), _, _, _, _⟩) rfl 102 _ rfl g (k * 259) ?_ D RD.out _ Tryz.underlying102 rfl 259 size50 HDL.out.1 ?_); (· first | rfl | simp))
    | (go_at_call 136; (with_reducible refine KC.out.mono ?_); rintro e w3 ⟨v3, ys3, T3, rfl, HM3, HT3, HB3, HR3⟩))
   have NT : Hid (Tg T0 w T3) := HTg.out.trans HT3.out HB.out.size
   have NM : Hid (MaV w3 B v3 T3 (compC (l.drop k) M nx).2 ys3) := by rw [HE.out]; exact HM3.out
   have NB : Hid (But (fun k => some k = v.ownBlock) w w3) := HB.out.rowv HB3.out (HR.out.wk b1.out.size)
   have NR : Hid (RowTo (w.alloc (.cells C.toArray 102)) v v3) := HR.out.trans HR3.out HZ.out
   have NC : Hid (Blk w3 w.heap.size 102 C) := HC.out.but HB3.out (fun e => by
    rcases HR.out with h | h
    ·rw [h] at e; have := (HMA.out.lt _ e.symm).2; omega
    ·have := h _ e.symm; have := s1.out; omega)
   go_roundw
   case rel => exact ⟨k, _, ys3, T3, by omega, rfl, fun h => by omega, fun i hi => by omega, by rw [HE.out], NM, NT, NB, NR, NC, Nat.le_trans HZ.out HB3.out.size⟩
   case measure => simp [intOf]
end Go.Proofs.YtdeppcddknakjaaGreatDoor.Rx
namespace Go.Proofs.YtdeppcddknakjaaGreatDoor.Rx
open Go.RowKit
section
variable {P : Program}
/-- A slice of two values of one cell. -/
theorem wpList_bs_pair {ops : Array Oper} {rest : List Oper} {o : Oper} {a : Act} {w : World} {Q : Exit → Act → World → Prop} (hgd : o.guard = none) (t e : TypeId) (x y : Operand) (ho : o.op = .buildSlice t 2 #[(0, x), (1, y)])
  (u1 u2 : Value) (hx : a.eval x = u1) (hy : a.eval y = u2) (hc1 : u1.cells = #[u1]) (hc2 : u2.cells = #[u2]) (z : Value)
  (hu : P.underlying t = some (.slice e)) (hi : (P.info? e).map (fun i => (i.zero, i.size)) = some (some z, 1))
  (h : ∀ g w', Hid (w.heap.size = g) → Hid (Blk w' g e [u1, u2]) → Hid (Below w.heap.size w w') → Hid (w'.heap.size = g + 1) → wpList P ops Q rest (a.put o.dst (.slice (some ⟨g, 0, none⟩) 2 2)) w') : wpList P ops Q (o :: rest) a w := by
 cases hq : P.info? e with
 | none => rw [hq] at hi; cases hi
 | some ie =>
  rw [hq] at hi
  simp only [Option.map_some, Option.some.injEq, Prod.mk.injEq] at hi
  obtain ⟨hz, hs⟩ := hi
  refine Go.wpList_buildSlice hgd t e 2 #[(0, x), (1, y)] ho [u1, u2].toArray ie z hu hq hz (by rw [hs]; omega) (by rw [hs]; omega) ?_ (h w.heap.size _ rfl (Blk.new w e [u1, u2]) ((Below.refl _ _).alloc (Nat.le_refl _) _) (by show (World.alloc _ _).heap.size = _; rw [World.size_alloc]))
  rw [hs]
  have e0 : (#[(0, x), (1, y)].map fun ((i, x) : Nat × Operand) => (i, a.eval x)).toList = [(0, a.eval x), (1, a.eval y)] := by simp
  rw [e0, hx, hy]
  have := Great.fill_whole (s := 1) (by omega) [u1, u2] ((Array.range (2 * 1)).map (z.cells[· % z.cells.size]!)) (fun v hv => by
   simp only [List.mem_cons, List.not_mem_nil, or_false] at hv
   rcases hv with rfl | rfl
   ·rw [hc1]; rfl
   ·rw [hc2]; rfl) (by simp)
  simpa [hc1, hc2] using this
end
theorem top_is (r : Re) (M : List St) : ∃ h : M.length < (comp r (M ++ [⟨false, none_, []⟩]) M.length).2.length, (comp r (M ++ [⟨false, none_, []⟩]) M.length).2[M.length] = ⟨false, none_, []⟩ := by
 have h1 := comp_ext r (M ++ [⟨false, none_, []⟩]) M.length
 have h2 := h1.old M.length (by simp)
 rw [List.getElem?_append_right (Nat.le_refl _), Nat.sub_self] at h2
 obtain ⟨h3, h4⟩ := List.getElem?_eq_some_iff.1 h2
 exact ⟨h3, h4⟩
set_option maxHeartbeats 4000000 in
set_option maxRecDepth 100000 in
theorem cmp_star (r : Re) (IH : Cmp45 r) : Cmp45 (.star r) := fun T C B v T0 M xs nx w hr hT hm hl => by
 rw [ReV] at hr
 obtain ⟨g, hC, hg, D, hD, hre⟩ := hr
 rw [sN] at hl
 rw [comp]
 have htp := top_is r M
 have k1 : Hid (Blk (w.alloc (.cells C.toArray 102)) w.heap.size 102 C) := Blk.new w 102 C
 have b1 : Hid (Below w.heap.size w (w.alloc (.cells C.toArray 102))) := (Below.refl _ _).alloc (Nat.le_refl _) _
 have s1 : Hid (w.heap.size < (w.alloc (.cells C.toArray 102)).heap.size) := by show _ < _; rw [World.size_alloc]; omega
 obtain ⟨ii, hI, hz0, hz1, hz2⟩ := info_parts info80
 have HI := Lib.hid hI
 have HZ0 := Lib.hid hz0
 have HZ1 := Lib.hid hz1
 have HZ2 := Lib.hid hz2
 have IS := Lib.hid info80s
 have HZS : Hid ((Value.agg (stL false none_ (.slice none 0 0)).toArray).cells.size = 258) := by show (Value.agg (stL false none_ (.slice none 0 0)).toArray).cells.size = 258; simp [Value.cells, stL_len]
 clear hI hz0 hz1 hz2
 have B0 : Hid (Tryz.prog.built 149 [] = some (stL false none_ (.slice none 0 0)).toArray) := built_st0
 have SV : Hid (∀ V T, StV V T (stL false none_ (.slice none 0 0)) ⟨false, none_, []⟩) := fun V T => ⟨none, 0, rfl, by simp, fun h => absurd rfl h⟩
 generalize Value.agg (stL false none_ (.slice none 0 0)).toArray = zz at HZ0 IS HZS
 generalize stL false none_ (.slice none 0 0) = S0 at B0 SV
 have C0 : Hid (C[0]? = some (.int .i64 4)) := by rw [hC]; exact nodL_0 _ _ _ _
 have C8 : Hid (C[258]? = some (.slice (some ⟨g, 0, none⟩) 1 1)) := by rw [hC]; exact (nodL_tl _ _ _ _).2
 have HT := Lib.hid hT
 have HMA := Lib.hid hm
 have HG := Lib.hid (hT g hg)
 have HRD := Lib.hid hD
 have HDL := Lib.hid hre.len
 have HRE := Lib.hid hre
 have HIH := Lib.hid IH
 obtain ⟨M0, hM0⟩ : ∃ M0, M0 = M ++ [⟨false, none_, []⟩] := ⟨_, rfl⟩
 rw [← hM0] at htp ⊢
 have HM0 := Lib.hid hM0
 have HL0 : Hid (M0.length = M.length + 1) := by rw [hM0]; show (M ++ _).length = _; simp
 obtain ⟨M1, hM1⟩ : ∃ M1, M1 = (comp r M0 M.length).2 := ⟨_, rfl⟩
 obtain ⟨fi, hfi⟩ : ∃ fi, fi = (comp r M0 M.length).1 := ⟨_, rfl⟩
 have HL1 : Hid (M1.length = M.length + 1 + sN r) := by rw [hM1]; show _ = _; rw [comp_len, HL0.out]
 rw [show (comp r M0 M.length).2 = M1 from hM1.symm, show (comp r M0 M.length).1 = fi from hfi.symm]
 have HTOP : Hid (∃ h : M.length < M1.length, M1[M.length] = ⟨false, none_, []⟩) := by subst hM1; exact htp
 have KCC : Hid (∀ B v T0 ys V, ReV V T D r → MaV V B v T0 M0 ys → (∀ n, T n → n < B) → Calls Tryz.prog 136 #[.agg D.toArray, v, .int .i64 (M.length : Int)] V (CmpQ fi M1 B v T0 V)) := fun B v T0 ys V h1 h2 h3 => by rw [hM1, hfi]; exact HIH.out T D B v T0 M0 ys M.length V h1 h3 h2 (by rw [HL0.out]; omega)
 clear hM0 hM1 hfi htp
 obtain ⟨A, cap, rfl, -⟩ := hm.form
 have hl' : M.length ≤ 100000 := by omega
 have c0 : (w.alloc (.cells C.toArray 102)).cell? ⟨w.heap.size, 0, none⟩ = some (.int .i64 4) := (k1.out.cell 0).trans C0.out
 clear hC hT IH hm hg hD hre
 go_enter Tryz.func136, Tryz.ntmps136
 go_upto_region 12 with (first
  | ((with_reducible refine wpList_build_abs (o := ⟨_, .build 149 _, _, _, _, _⟩) rfl 149 _ rfl [] ?_ S0 B0.out ?_); (· first | (simp; done) | (simp; rfl) | (simp; exact ⟨rfl, rfl⟩)))
  | ((with_reducible refine wpList_buildSlice_abs (o := ⟨_, .buildSlice 145 1 #[(0, .tmp 64)], _, _, _, _⟩) rfl 145 149 _ rfl S0 ?_ 258 (SV.out w (fun _ => True)).len.1 (by decide) (by decide) zz Tryz.underlying145 IS.out ?_); (· rfl); intro g4 w4 e4 k4 b4 s4)
  | (at_builtin; refine wpList_append_own_at _ rfl (.tmp 63) (.tmp 65) 145 rfl B 149 ii zz 258 288 Tryz.underlying145 HI.out HZ0.out HZ1.out HZ2.out HZS.out (by decide) (.slice A M.length cap) M.length xs rfl ((HMA.out.below (b1.out.trans (b4.out.mono b1.out.size))).row) ⟨g4, 0, none⟩ 1 1 (S0) rfl (by rw [(SV.out w (fun _ => True)).len.1]) (fun j u hu => by have h := k4.out.range j u hu; rw [Nat.zero_add] at h; rw [Addr.add_mid, Nat.zero_add]; exact h) ((SV.out w (fun _ => True)).len.2) (by simp only [maxLen]; omega) (by omega) (by have := HMA.out.le; have := b1.out.size; have := b4.out.size; omega) ?_; intro v5 w5 ho5 hg5 _ hor5; have O5 := Lib.hid ho5; have G5 := Lib.hid hg5; have OR5 := Lib.hid hor5; clear ho5 hg5 hor5))
 have hs1 := b1.out.size
 have hs4 := b4.out.size
 have B4 : Hid (Below w.heap.size w w4) := b1.out.trans (b4.out.mono hs1)
 have NM : Hid (MaV w5 B v5 (fun n => T0 n ∨ False) M0 (xs ++ S0)) := by rw [HM0.out]; exact HMA.out.grow B4.out (SV.out _ _) (fun n h => h.elim) O5.out G5.out OR5.out
 have NB := Lib.hid (grown_but B4.out G5.out).1
 have NR := Lib.hid (row_to (w := w) OR5.out B4.out.size)
 have NR1 : Hid (some w.heap.size ≠ v5.ownBlock) := fun e => by
  rcases OR5.out with h | h
  ·rw [h] at e; have := (HMA.out.lt _ e.symm).2; omega
  ·rw [h] at e; injection e with e; have := s1.out; omega
 have K5 : Hid (Blk w5 w.heap.size 102 C) := (G5.out.block w.heap.size (by have := s1.out; omega) (fun e => by have := (HMA.out.lt _ e.symm).2; omega)).trans (k1.out.below b4.out s1.out)
 have c8 : w5.cell? ⟨w.heap.size, 258, none⟩ = some (.slice (some ⟨g, 0, none⟩) 1 1) := (K5.out.cell 258).trans C8.out
 have HTB : Hid (∀ n i, T n → w5.cell? ⟨n, i, none⟩ = w.cell? ⟨n, i, none⟩) := fun n i hn => NB.out.cell (p := ⟨n, i, none⟩) (Nat.lt_of_lt_of_le (HT.out n hn) HMA.out.le) (fun e => by have := (HMA.out.lt n e.symm).1; have := HT.out n hn; omega)
 have RD : Hid (w5.rangeAt g 0 D) := rangeAt_keep HRD.out (fun i => NB.out.cell (p := ⟨g, i, none⟩) (Nat.lt_of_lt_of_le HG.out HMA.out.le) (fun e => by have := (HMA.out.lt g e.symm).1; have := HG.out; omega))
 have KC := Lib.hid (KCC.out B v5 _ _ w5 (HRE.out.keep (fun _ h => h) (fun b i hb => HTB.out b i hb)) NM.out HT.out)
 have hs5 : Hid ((w.alloc (.cells C.toArray 102)).heap.size ≤ w5.heap.size) := Nat.le_trans hs4 G5.out.size
 clear c0 hs4 e4 k4 b4 s4 O5 G5 OR5 B4
 go_upto_region 13 with (first
  | ((with_reducible refine wpList_load_abs (o := ⟨_, .load 102 (.tmp 70), _, _, _, _⟩) rfl 102 _ rfl g 0 ?_ D RD.out _ Tryz.underlying102 rfl 259 size50 HDL.out.1 ?_); (· rfl))
  | (go_at_call 136; (with_reducible refine KC.out.mono ?_); rintro e w6 ⟨v6, ys6, T6, rfl, HM6, HT6, HB6, HR6⟩))
 obtain ⟨A6, cap6, rfl, hA6⟩ := HM6.out.form
 obtain ⟨ht1, ht2⟩ := HTOP.out
 obtain ⟨g6, rfl⟩ := hA6 (fun e => by rw [e] at ht1; simp at ht1)
 have K6 : Hid (Blk w6 w.heap.size 102 C) := K5.out.but HB6.out NR1.out
 have HB7 : Hid (But (fun k => some k = (Value.slice A M.length cap).ownBlock) w w6) := NB.out.rowv HB6.out NR.out
 have HR7 : Hid (RowTo w (.slice A M.length cap) (.slice (some ⟨g6, 0, none⟩) M1.length cap6)) := NR.out.trans HR6.out (by have := hs5.out; omega)
 have hgb : Hid (w.heap.size ≠ g6) := fun e => by
  rcases HR6.out with h | h
  ·exact NR1.out (by rw [← h, e]; rfl)
  ·have := h g6 rfl; have := hs5.out; have := s1.out; omega
 have ht1' : (M.length : Int) < (M1.length : Int) := by omega
 have hm0 : (0 : Int) ≤ (M.length : Int) := Int.natCast_nonneg _
 have CC : Hid (∃ u, w6.cell? ⟨g6, M.length * 258 + 257, none⟩ = some u) := by
  obtain ⟨A7, c7, _, _, _, _, h⟩ := HM6.out.at_ rfl ht1
  exact ⟨_, h⟩
 obtain ⟨u0, hu0⟩ := CC.out
 have hfr := World.ownsRow.frozenAt HM6.out.row (M.length * 258 + 257)
 have HCC := Lib.hid hu0
 have HFR := Lib.hid hfr
 have HG6 := Lib.hid (HM6.out.lt g6 rfl)
 have HTT : Hid (M.length < M1.length ∧ ∀ h : M.length < M1.length, M1[M.length] = ⟨false, none_, []⟩) := ⟨ht1, fun _ => ht2⟩
 clear hu0 hfr CC ht2 c8 KC RD
 go_wp2_with (first
  | ((with_reducible refine wpList_bs_pair (o := ⟨_, .buildSlice 57 2 #[(0, .tmp 79), (1, .tmp 80)], _, _, _, _⟩) rfl 57 3 _ _ rfl (.int .i64 (fi : Int)) (.int .i64 (nx : Int)) ?_ ?_ rfl rfl (.int .i64 0) Tryz.underlying57 info3s ?_); (· rfl); (· rfl); intro g8 w8 e8 k8 b8 s8; have hc8 : w8.cell? ⟨g6, M.length * 258 + 257, none⟩ = some u0 := (b8.out.cell (p := ⟨g6, M.length * 258 + 257, none⟩) HG6.out.2).trans HCC.out; have hf8 : w8.frozen? ⟨g6, M.length * 258 + 257, none⟩ = false := (World.frozen?_of_block (w := w6) (a := ⟨g6, M.length * 258 + 257, none⟩) (b8.out.block g6 HG6.out.2)).trans HFR.out; have c0z : (w8.setCell ⟨g6, M.length * 258 + 257, none⟩ (.slice (some ⟨g8, 0, none⟩) 2 2)).cell? ⟨w.heap.size, 0, none⟩ = some (.int .i64 4) := (((K6.out.below b8.out K6.out.lt).setOther (p := ⟨g6, M.length * 258 + 257, none⟩) (fun e => hgb.out e.symm) _).cell 0).trans C0.out))
 have SM := Lib.hid (HM6.out.set (l := [fi, nx]) (gn := g8) (cap2 := 2) rfl HTT.out.1 (HTT.out.2 _) (by simp) b8.out ⟨by have := e8.out; omega, k8.out.lt⟩ (fun j hj => by
  match j, hj with
  | 0, _ => exact k8.out.cell 0
  | 1, _ => exact k8.out.cell 1) rfl)
 have SB : Hid (But (fun k => some k = (Value.slice A M.length cap).ownBlock) w (w8.setCell ⟨g6, M.length * 258 + 257, none⟩ (.slice (some ⟨g8, 0, none⟩) 2 2))) := HB7.out.rowv (v1 := .slice (some ⟨g6, 0, none⟩) M1.length cap6) ((But.of_below b8.out).setCell (S := fun k => some k = (Value.slice (some ⟨g6, 0, none⟩) M1.length cap6).ownBlock) (p := ⟨g6, M.length * 258 + 257, none⟩) (fun _ => rfl) _) HR7.out
 have ST : Hid (Tg T0 w (fun m => T6 m ∨ m = g8)) := ⟨fun n h => .inl (HT6.out.1 n (.inl h)), fun n h => h.elim (fun h => (HT6.out.2 n h).elim (fun h => .inl (h.resolve_right id)) (fun h => .inr (by have := hs5.out; omega))) (fun e => .inr (by have := e8.out; have := HB7.out.size; omega))⟩
 go_ret2
 refine ⟨_, _, _, ?_, SM, ST, SB, ?_⟩
 ·simp
 ·exact HR7.out
set_option maxHeartbeats 4000000 in
set_option maxRecDepth 100000 in
theorem cmp_plus (r : Re) (IH : Cmp45 r) : Cmp45 (.plus r) := fun T C B v T0 M xs nx w hr hT hm hl => by
 rw [ReV] at hr
 obtain ⟨g, hC, hg, D, hD, hre⟩ := hr
 rw [sN] at hl
 rw [comp]
 have htp := top_is r M
 have k1 : Hid (Blk (w.alloc (.cells C.toArray 102)) w.heap.size 102 C) := Blk.new w 102 C
 have b1 : Hid (Below w.heap.size w (w.alloc (.cells C.toArray 102))) := (Below.refl _ _).alloc (Nat.le_refl _) _
 have s1 : Hid (w.heap.size < (w.alloc (.cells C.toArray 102)).heap.size) := by show _ < _; rw [World.size_alloc]; omega
 obtain ⟨ii, hI, hz0, hz1, hz2⟩ := info_parts info80
 have HI := Lib.hid hI
 have HZ0 := Lib.hid hz0
 have HZ1 := Lib.hid hz1
 have HZ2 := Lib.hid hz2
 have IS := Lib.hid info80s
 have HZS : Hid ((Value.agg (stL false none_ (.slice none 0 0)).toArray).cells.size = 258) := by show (Value.agg (stL false none_ (.slice none 0 0)).toArray).cells.size = 258; simp [Value.cells, stL_len]
 clear hI hz0 hz1 hz2
 have B0 : Hid (Tryz.prog.built 149 [] = some (stL false none_ (.slice none 0 0)).toArray) := built_st0
 have SV : Hid (∀ V T, StV V T (stL false none_ (.slice none 0 0)) ⟨false, none_, []⟩) := fun V T => ⟨none, 0, rfl, by simp, fun h => absurd rfl h⟩
 generalize Value.agg (stL false none_ (.slice none 0 0)).toArray = zz at HZ0 IS HZS
 generalize stL false none_ (.slice none 0 0) = S0 at B0 SV
 have C0 : Hid (C[0]? = some (.int .i64 5)) := by rw [hC]; exact nodL_0 _ _ _ _
 have C8 : Hid (C[258]? = some (.slice (some ⟨g, 0, none⟩) 1 1)) := by rw [hC]; exact (nodL_tl _ _ _ _).2
 have HT := Lib.hid hT
 have HMA := Lib.hid hm
 have HG := Lib.hid (hT g hg)
 have HRD := Lib.hid hD
 have HDL := Lib.hid hre.len
 have HRE := Lib.hid hre
 have HIH := Lib.hid IH
 obtain ⟨M0, hM0⟩ : ∃ M0, M0 = M ++ [⟨false, none_, []⟩] := ⟨_, rfl⟩
 rw [← hM0] at htp ⊢
 have HM0 := Lib.hid hM0
 have HL0 : Hid (M0.length = M.length + 1) := by rw [hM0]; show (M ++ _).length = _; simp
 obtain ⟨M1, hM1⟩ : ∃ M1, M1 = (comp r M0 M.length).2 := ⟨_, rfl⟩
 obtain ⟨fi, hfi⟩ : ∃ fi, fi = (comp r M0 M.length).1 := ⟨_, rfl⟩
 have HL1 : Hid (M1.length = M.length + 1 + sN r) := by rw [hM1]; show _ = _; rw [comp_len, HL0.out]
 rw [show (comp r M0 M.length).2 = M1 from hM1.symm, show (comp r M0 M.length).1 = fi from hfi.symm]
 have HTOP : Hid (∃ h : M.length < M1.length, M1[M.length] = ⟨false, none_, []⟩) := by subst hM1; exact htp
 have KCC : Hid (∀ B v T0 ys V, ReV V T D r → MaV V B v T0 M0 ys → (∀ n, T n → n < B) → Calls Tryz.prog 136 #[.agg D.toArray, v, .int .i64 (M.length : Int)] V (CmpQ fi M1 B v T0 V)) := fun B v T0 ys V h1 h2 h3 => by rw [hM1, hfi]; exact HIH.out T D B v T0 M0 ys M.length V h1 h3 h2 (by rw [HL0.out]; omega)
 clear hM0 hM1 hfi htp
 obtain ⟨A, cap, rfl, -⟩ := hm.form
 have hl' : M.length ≤ 100000 := by omega
 have c0 : (w.alloc (.cells C.toArray 102)).cell? ⟨w.heap.size, 0, none⟩ = some (.int .i64 5) := (k1.out.cell 0).trans C0.out
 clear hC hT IH hm hg hD hre
 go_enter Tryz.func136, Tryz.ntmps136
 go_upto_region 12 with (first
  | ((with_reducible refine wpList_build_abs (o := ⟨_, .build 149 _, _, _, _, _⟩) rfl 149 _ rfl [] ?_ S0 B0.out ?_); (· first | (simp; done) | (simp; rfl) | (simp; exact ⟨rfl, rfl⟩)))
  | ((with_reducible refine wpList_buildSlice_abs (o := ⟨_, .buildSlice 145 1 #[(0, .tmp 64)], _, _, _, _⟩) rfl 145 149 _ rfl S0 ?_ 258 (SV.out w (fun _ => True)).len.1 (by decide) (by decide) zz Tryz.underlying145 IS.out ?_); (· rfl); intro g4 w4 e4 k4 b4 s4)
  | (at_builtin; refine wpList_append_own_at _ rfl (.tmp 63) (.tmp 65) 145 rfl B 149 ii zz 258 288 Tryz.underlying145 HI.out HZ0.out HZ1.out HZ2.out HZS.out (by decide) (.slice A M.length cap) M.length xs rfl ((HMA.out.below (b1.out.trans (b4.out.mono b1.out.size))).row) ⟨g4, 0, none⟩ 1 1 (S0) rfl (by rw [(SV.out w (fun _ => True)).len.1]) (fun j u hu => by have h := k4.out.range j u hu; rw [Nat.zero_add] at h; rw [Addr.add_mid, Nat.zero_add]; exact h) ((SV.out w (fun _ => True)).len.2) (by simp only [maxLen]; omega) (by omega) (by have := HMA.out.le; have := b1.out.size; have := b4.out.size; omega) ?_; intro v5 w5 ho5 hg5 _ hor5; have O5 := Lib.hid ho5; have G5 := Lib.hid hg5; have OR5 := Lib.hid hor5; clear ho5 hg5 hor5))
 have hs1 := b1.out.size
 have hs4 := b4.out.size
 have B4 : Hid (Below w.heap.size w w4) := b1.out.trans (b4.out.mono hs1)
 have NM : Hid (MaV w5 B v5 (fun n => T0 n ∨ False) M0 (xs ++ S0)) := by rw [HM0.out]; exact HMA.out.grow B4.out (SV.out _ _) (fun n h => h.elim) O5.out G5.out OR5.out
 have NB := Lib.hid (grown_but B4.out G5.out).1
 have NR := Lib.hid (row_to (w := w) OR5.out B4.out.size)
 have NR1 : Hid (some w.heap.size ≠ v5.ownBlock) := fun e => by
  rcases OR5.out with h | h
  ·rw [h] at e; have := (HMA.out.lt _ e.symm).2; omega
  ·rw [h] at e; injection e with e; have := s1.out; omega
 have K5 : Hid (Blk w5 w.heap.size 102 C) := (G5.out.block w.heap.size (by have := s1.out; omega) (fun e => by have := (HMA.out.lt _ e.symm).2; omega)).trans (k1.out.below b4.out s1.out)
 have c8 : w5.cell? ⟨w.heap.size, 258, none⟩ = some (.slice (some ⟨g, 0, none⟩) 1 1) := (K5.out.cell 258).trans C8.out
 have HTB : Hid (∀ n i, T n → w5.cell? ⟨n, i, none⟩ = w.cell? ⟨n, i, none⟩) := fun n i hn => NB.out.cell (p := ⟨n, i, none⟩) (Nat.lt_of_lt_of_le (HT.out n hn) HMA.out.le) (fun e => by have := (HMA.out.lt n e.symm).1; have := HT.out n hn; omega)
 have RD : Hid (w5.rangeAt g 0 D) := rangeAt_keep HRD.out (fun i => NB.out.cell (p := ⟨g, i, none⟩) (Nat.lt_of_lt_of_le HG.out HMA.out.le) (fun e => by have := (HMA.out.lt g e.symm).1; have := HG.out; omega))
 have KC := Lib.hid (KCC.out B v5 _ _ w5 (HRE.out.keep (fun _ h => h) (fun b i hb => HTB.out b i hb)) NM.out HT.out)
 have hs5 : Hid ((w.alloc (.cells C.toArray 102)).heap.size ≤ w5.heap.size) := Nat.le_trans hs4 G5.out.size
 clear c0 hs4 e4 k4 b4 s4 O5 G5 OR5 B4
 go_upto_region 13 with (first
  | ((with_reducible refine wpList_load_abs (o := ⟨_, .load 102 (.tmp 70), _, _, _, _⟩) rfl 102 _ rfl g 0 ?_ D RD.out _ Tryz.underlying102 rfl 259 size50 HDL.out.1 ?_); (· rfl))
  | (go_at_call 136; (with_reducible refine KC.out.mono ?_); rintro e w6 ⟨v6, ys6, T6, rfl, HM6, HT6, HB6, HR6⟩))
 obtain ⟨A6, cap6, rfl, hA6⟩ := HM6.out.form
 obtain ⟨ht1, ht2⟩ := HTOP.out
 obtain ⟨g6, rfl⟩ := hA6 (fun e => by rw [e] at ht1; simp at ht1)
 have K6 : Hid (Blk w6 w.heap.size 102 C) := K5.out.but HB6.out NR1.out
 have HB7 : Hid (But (fun k => some k = (Value.slice A M.length cap).ownBlock) w w6) := NB.out.rowv HB6.out NR.out
 have HR7 : Hid (RowTo w (.slice A M.length cap) (.slice (some ⟨g6, 0, none⟩) M1.length cap6)) := NR.out.trans HR6.out (by have := hs5.out; omega)
 have hgb : Hid (w.heap.size ≠ g6) := fun e => by
  rcases HR6.out with h | h
  ·exact NR1.out (by rw [← h, e]; rfl)
  ·have := h g6 rfl; have := hs5.out; have := s1.out; omega
 have ht1' : (M.length : Int) < (M1.length : Int) := by omega
 have hm0 : (0 : Int) ≤ (M.length : Int) := Int.natCast_nonneg _
 have CC : Hid (∃ u, w6.cell? ⟨g6, M.length * 258 + 257, none⟩ = some u) := by
  obtain ⟨A7, c7, _, _, _, _, h⟩ := HM6.out.at_ rfl ht1
  exact ⟨_, h⟩
 obtain ⟨u0, hu0⟩ := CC.out
 have hfr := World.ownsRow.frozenAt HM6.out.row (M.length * 258 + 257)
 have HCC := Lib.hid hu0
 have HFR := Lib.hid hfr
 have HG6 := Lib.hid (HM6.out.lt g6 rfl)
 have HTT : Hid (M.length < M1.length ∧ ∀ h : M.length < M1.length, M1[M.length] = ⟨false, none_, []⟩) := ⟨ht1, fun _ => ht2⟩
 clear hu0 hfr CC ht2 c8 KC RD
 go_wp2_with (first
  | ((with_reducible refine wpList_bs_pair (o := ⟨_, .buildSlice 57 2 #[(0, .tmp 79), (1, .tmp 80)], _, _, _, _⟩) rfl 57 3 _ _ rfl (.int .i64 (fi : Int)) (.int .i64 (nx : Int)) ?_ ?_ rfl rfl (.int .i64 0) Tryz.underlying57 info3s ?_); (· rfl); (· rfl); intro g8 w8 e8 k8 b8 s8; have hc8 : w8.cell? ⟨g6, M.length * 258 + 257, none⟩ = some u0 := (b8.out.cell (p := ⟨g6, M.length * 258 + 257, none⟩) HG6.out.2).trans HCC.out; have hf8 : w8.frozen? ⟨g6, M.length * 258 + 257, none⟩ = false := (World.frozen?_of_block (w := w6) (a := ⟨g6, M.length * 258 + 257, none⟩) (b8.out.block g6 HG6.out.2)).trans HFR.out; have c0z : (w8.setCell ⟨g6, M.length * 258 + 257, none⟩ (.slice (some ⟨g8, 0, none⟩) 2 2)).cell? ⟨w.heap.size, 0, none⟩ = some (.int .i64 5) := (((K6.out.below b8.out K6.out.lt).setOther (p := ⟨g6, M.length * 258 + 257, none⟩) (fun e => hgb.out e.symm) _).cell 0).trans C0.out))
 have SM := Lib.hid (HM6.out.set (l := [fi, nx]) (gn := g8) (cap2 := 2) rfl HTT.out.1 (HTT.out.2 _) (by simp) b8.out ⟨by have := e8.out; omega, k8.out.lt⟩ (fun j hj => by
  match j, hj with
  | 0, _ => exact k8.out.cell 0
  | 1, _ => exact k8.out.cell 1) rfl)
 have SB : Hid (But (fun k => some k = (Value.slice A M.length cap).ownBlock) w (w8.setCell ⟨g6, M.length * 258 + 257, none⟩ (.slice (some ⟨g8, 0, none⟩) 2 2))) := HB7.out.rowv (v1 := .slice (some ⟨g6, 0, none⟩) M1.length cap6) ((But.of_below b8.out).setCell (S := fun k => some k = (Value.slice (some ⟨g6, 0, none⟩) M1.length cap6).ownBlock) (p := ⟨g6, M.length * 258 + 257, none⟩) (fun _ => rfl) _) HR7.out
 have ST : Hid (Tg T0 w (fun m => T6 m ∨ m = g8)) := ⟨fun n h => .inl (HT6.out.1 n (.inl h)), fun n h => h.elim (fun h => (HT6.out.2 n h).elim (fun h => .inl (h.resolve_right id)) (fun h => .inr (by have := hs5.out; omega))) (fun e => .inr (by have := e8.out; have := HB7.out.size; omega))⟩
 go_ret2
 refine ⟨_, _, _, ?_, SM, ST, SB, ?_⟩
 ·simp
 ·exact HR7.out
end Go.Proofs.YtdeppcddknakjaaGreatDoor.Rx
namespace Go.Proofs.YtdeppcddknakjaaGreatDoor.Rx
open Go.RowKit
def nmC (l : List Nat) : List Value := l.map (fun (n : Nat) => Value.int .i64 (n : Int))
/-- v owns the numbers l. -/
def OwnN (w : World) (B : Nat) (v : Value) (l : List Nat) : Prop := w.ownsRow B 3 1 v l.length (nmC l)
theorem OwnN.fresh {w w1 : World} {B : Nat} (hB : B ≤ w.heap.size) (h : w.alloc (.cells #[] 3) = w1) : OwnN w1 B (.slice (some ⟨w.heap.size, 0, none⟩) 0 0) [] := by
 subst h
 exact ⟨rfl, .inr ⟨w.heap.size, 0, #[], rfl, hB, heap_alloc_new w _, Nat.le_refl _, by decide, rfl, rfl⟩⟩
theorem OwnN.snoc {w : World} {B n : Nat} {v : Value} {l : List Nat} {x : Nat} {xs : List Value} (h : w.ownsRow B 3 1 v (l.length + n) (nmC l ++ xs)) (hx : xs = [.int .i64 (x : Int)]) (hn : n = 1) : OwnN w B v (l ++ [x]) := by
 unfold OwnN
 subst hx hn
 rw [List.length_append, List.length_singleton]
 unfold nmC at h ⊢
 rw [List.map_append]
 exact h
theorem OwnN.num {w : World} {B : Nat} {v : Value} {l : List Nat} (h : OwnN w B v l) : ∃ A cap, v = .slice A l.length cap ∧ (l ≠ [] → ∃ g, A = some ⟨g, 0, none⟩ ∧ v.ownBlock = some g ∧ ∀ j (hj : j < l.length), w.cell? ⟨g, j, none⟩ = some (.int .i64 (l[j] : Nat))) := by
 have h0 := h
 rcases h.2 with ⟨rfl, h1⟩ | ⟨g, cap, cur, rfl, hr⟩
 ·exact ⟨none, 0, by rw [h1], fun hne => absurd (List.length_eq_zero_iff.1 h1) hne⟩
 ·refine ⟨_, _, rfl, fun _ => ⟨g, rfl, rfl, fun j hj => ?_⟩⟩
  refine (World.ownsRow.cellAt h0 j (by omega)).trans ?_
  unfold nmC
  rw [List.getElem?_map, List.getElem?_eq_getElem hj]
  rfl
theorem compA_drop (l : List Re) (M : List St) (nx : Nat) {k : Nat} (h : k < l.length) : compA (l.drop k) M nx = ((comp l[k] M nx).1 :: (compA (l.drop (k + 1)) (comp l[k] M nx).2 nx).1, (compA (l.drop (k + 1)) (comp l[k] M nx).2 nx).2) := by rw [drop_at l h, compA]
set_option maxHeartbeats 4000000 in
set_option maxRecDepth 100000 in
theorem cmp_alt (l : List Re) (IH : ∀ r ∈ l, Cmp45 r) : Cmp45 (.alt l) := fun T C B v T0 M xs nx w hr hT hm hl => by
 rw [ReV] at hr
 obtain ⟨A, cap, hC, hll, hrow⟩ := hr
 rw [sN] at hl
 rw [comp]
 have k1 : Hid (Blk (w.alloc (.cells C.toArray 102)) w.heap.size 102 C) := Blk.new w 102 C
 have b1 : Hid (Below w.heap.size w (w.alloc (.cells C.toArray 102))) := (Below.refl _ _).alloc (Nat.le_refl _) _
 have s1 : Hid (w.heap.size < (w.alloc (.cells C.toArray 102)).heap.size) := by show _ < _; rw [World.size_alloc]; omega
 obtain ⟨ii, hI, hz0, hz1, hz2⟩ := info_parts info80
 have HI := Lib.hid hI
 have HZ0 := Lib.hid hz0
 have HZ1 := Lib.hid hz1
 have HZ2 := Lib.hid hz2
 have IS := Lib.hid info80s
 have HZS : Hid ((Value.agg (stL false none_ (.slice none 0 0)).toArray).cells.size = 258) := by show (Value.agg (stL false none_ (.slice none 0 0)).toArray).cells.size = 258; simp [Value.cells, stL_len]
 clear hI hz0 hz1 hz2
 have S0L : Hid (∀ v : Value, v.oneCell' = true → (stL false none_ v).length = 258 ∧ ∀ u ∈ stL false none_ v, u.oneCell' = true) := fun v hv => ⟨stL_len _ _ _, stL_one _ _ hv⟩
 generalize Value.agg (stL false none_ (.slice none 0 0)).toArray = zz at HZ0 IS HZS
 obtain ⟨i3, hI3, hz3, hz4, hz5⟩ := info_parts info3
 have HJ := Lib.hid hI3
 have HJ0 := Lib.hid hz3
 have HJ1 := Lib.hid hz4
 have HJ2 := Lib.hid hz5
 clear hI3 hz3 hz4 hz5
 obtain ⟨S, hS⟩ : ∃ S : Value → List Value, S = fun v => stL false none_ v := ⟨_, rfl⟩
 have HB : Hid (∀ A n c, Tryz.prog.built 149 [(2, .slice A n c)] = some (S (.slice A n c)).toArray) := by rw [hS]; exact fun A n c => built_st2 rfl
 have HS1 : Hid (∀ A n c, (S (.slice A n c)).length = 258 ∧ ∀ u ∈ S (.slice A n c), u.oneCell' = true) := by rw [hS]; exact fun A n c => S0L.out _ rfl
 have HSE := Lib.hid hS
 clear hS S0L
 have C0 : Hid (C[0]? = some (.int .i64 3)) := by rw [hC]; exact nodL_0 _ _ _ _
 have C8 : Hid (C[258]? = some (.slice A l.length cap)) := by rw [hC]; exact (nodL_tl _ _ _ _).2
 have HROW := Lib.hid hrow
 have HT := Lib.hid hT
 have HIH := Lib.hid IH
 have HMA := Lib.hid hm
 have HLL := Lib.hid hll
 have c0 : (w.alloc (.cells C.toArray 102)).cell? ⟨w.heap.size, 0, none⟩ = some (.int .i64 3) := (k1.out.cell 0).trans C0.out
 have HO1 : Hid (OwnN ((w.alloc (.cells C.toArray 102)).alloc (.cells #[] 3)) (w.alloc (.cells C.toArray 102)).heap.size (.slice (some ⟨w.heap.size + 1, 0, none⟩) 0 0) []) := by
  have h := OwnN.fresh (w := w.alloc (.cells C.toArray 102)) (Nat.le_refl _) rfl
  rw [show (Value.slice (some ⟨(w.alloc (.cells C.toArray 102)).heap.size, 0, none⟩) 0 0) = Value.slice (some ⟨w.heap.size + 1, 0, none⟩) 0 0 by rw [World.size_alloc]] at h
  exact h
 have b2 : Hid (Below (w.alloc (.cells C.toArray 102)).heap.size (w.alloc (.cells C.toArray 102)) ((w.alloc (.cells C.toArray 102)).alloc (.cells #[] 3))) := (Below.refl _ _).alloc (Nat.le_refl _) _
 clear hC hrow hT IH hm
 go_enter Tryz.func136, Tryz.ntmps136
 go_upto_region 18 with fail
 clear c0
 generalize hw1 : w.alloc (.cells C.toArray 102) = w1 at *
 generalize hw2 : w1.alloc (.cells #[] 3) = w2 at *
 clear hw1 hw2
 have HB2 : Hid (Below w.heap.size w w2) := b1.out.trans (b2.out.mono b1.out.size)
 go_wp2_with fail
 go_loopw [1, 12, 13] (fun v1 vs vi wr => ∃ (j : Nat) (ns : List Nat) (Mj : List St) (ys : List Value) (T1 : Nat → Prop), j ≤ l.length ∧ vi = .int .i64 (j : Int) ∧ ns.length = j ∧ Mj.length + sL (l.drop j) ≤ 99999 ∧ Hid ((compA l M nx).1 = ns ++ (compA (l.drop j) Mj nx).1 ∧ (compA l M nx).2 = (compA (l.drop j) Mj nx).2) ∧ Hid (MaV wr B v1 T1 Mj ys) ∧ Hid (Tg T0 w T1) ∧ Hid (OwnN wr w1.heap.size vs ns) ∧ Hid (∀ g, vs.ownBlock = some g → v1.ownBlock ≠ some g) ∧ Hid (∀ n, T1 n → some n ≠ vs.ownBlock) ∧ Hid (But (fun k => some k = v.ownBlock) w wr) ∧ Hid (RowTo w1 v v1) ∧ Hid (Blk wr w.heap.size 102 C) ∧ Hid (w1.heap.size ≤ wr.heap.size)) (fun _ _ vi _ => l.length - (intOf vi).toNat)
 case atStart =>
  exact ⟨0, [], M, xs, T0, Nat.zero_le _, rfl, rfl, by rw [List.drop_zero]; omega, ⟨rfl, rfl⟩, HMA.out.below HB2.out, Tg.refl _ _, HO1, fun g hg hv => (by (have hg : some (w.heap.size + 1) = some g := hg); injection hg with hg; have := (HMA.out.lt g hv).2; omega), fun n hn e => (by (have e : some n = some (w.heap.size + 1) := e); injection e with e; have := (HMA.out.sub n hn).2.1; omega), But.of_below HB2.out, RowTo.refl _ _, k1.out.below b2.out s1.out, b2.out.size⟩
 case round =>
  clear HO1
  obtain ⟨j, ns, Mj, ys, T1, hj, rfl, hns, hMj, HE, HM, HTg, HO, HN, HNT, HBw, HR, HC, HZ⟩ := hrel
  have c8 : wr.cell? ⟨w.heap.size, 258, none⟩ = some (.slice A l.length cap) := (HC.out.cell 258).trans C8.out
  have hj0 : (0 : Int) ≤ (j : Int) := Int.natCast_nonneg _
  by_cases hlt : j < l.length
  ·have hlt' : (j : Int) < (l.length : Int) := by omega
   obtain ⟨g, rfl, hg, hrs⟩ := HROW.out (by intro e; rw [e] at hlt; simp at hlt)
   obtain ⟨D, hr0, hre⟩ := hrs.at_ j hlt
   rw [Nat.zero_add] at hr0
   have HTB : Hid (∀ n i, T n → wr.cell? ⟨n, i, none⟩ = w.cell? ⟨n, i, none⟩) := fun n i hn => HBw.out.cell (p := ⟨n, i, none⟩) (Nat.lt_of_lt_of_le (HT.out n hn) HMA.out.le) (fun e => by have := (HMA.out.lt n e.symm).1; have := HT.out n hn; omega)
   have RD : Hid (wr.rangeAt g (j * 259) D) := rangeAt_keep hr0 (fun i => HTB.out g i hg)
   have HDL := Lib.hid hre.len
   have HDR := Lib.hid (compA_drop l Mj nx hlt)
   have HSL := Lib.hid (sL_drop l hlt)
   have KC := Lib.hid (HIH.out l[j] (List.getElem_mem hlt) T D B u1 T1 Mj ys nx wr (hre.keep (fun _ h => h) (fun b i hb => HTB.out b i hb)) HT.out HM.out (by have := HSL.out; omega))
   have HCL := Lib.hid (comp_len l[j] Mj nx)
   obtain ⟨fi, hfi⟩ : ∃ fi, fi = (comp l[j] Mj nx).1 := ⟨_, rfl⟩
   obtain ⟨Mk, hMk⟩ : ∃ Mk, Mk = (comp l[j] Mj nx).2 := ⟨_, rfl⟩
   rw [← hfi, ← hMk] at KC HDR
   rw [← hMk] at HCL
   clear hr0 hre hrs hfi hMk
   have hns' : ns.length ≤ 1001 := by have := HLL.out; omega
   go_wp2_with (first
    | ((with_reducible refine wpList_load_abs (o := ⟨_, .load 102 (.tmp 103), _, _, _, _⟩) rfl 102 _ rfl g (j * 259) ?_ D RD.out _ Tryz.underlying102 rfl 259 size50 HDL.out.1 ?_); (· first | rfl | simp))
    | (go_at_call 136; (with_reducible refine KC.out.mono ?_); rintro e w3 ⟨v3, ys3, T3, rfl, HM3, HT3, HB3, HR3⟩; have HO3 : Hid (OwnN w3 w1.heap.size u12 ns) := HO.out.on_but HB3.out (fun g hg e => HN.out g hg e.symm); have HZ3 := Lib.hid (And.intro HZ.out HB3.out.size))
    | ((with_reducible refine wpList_bs_one (o := ⟨_, .buildSlice 57 1 #[(0, .tmp 111)], _, _, _, _⟩) rfl 57 3 _ rfl (.int .i64 (fi : Int)) ?_ rfl (.int .i64 0) Tryz.underlying57 info3s ?_); (· rfl); intro g4 w4 e4 k4 b4 s4)
    | (at_builtin; refine wpList_append_own_at _ rfl (.tmp 110) (.tmp 112) 57 rfl w1.heap.size 3 i3 (.int .i64 0) 1 8 Tryz.underlying57 HJ.out HJ0.out HJ1.out HJ2.out rfl (by decide) u12 ns.length _ rfl (World.ownsRow.on_but HO3.out (But.of_below (S := fun _ => False) b4.out) (fun _ _ => id)) ⟨g4, 0, none⟩ 1 1 [.int .i64 (fi : Int)] rfl rfl (fun j u hu => by have h := k4.out.range j u hu; rw [Nat.zero_add] at h; rw [Addr.add_mid, Nat.zero_add]; exact h) (by simp [Value.oneCell']) (by simp only [maxLen]; omega) (by omega) (by have := HZ3.out; have := b4.out.size; omega) ?_; intro v5 w5 ho5 hg5 _ hor5; have O5 := Lib.hid (OwnN.snoc ho5 rfl rfl); have G5 := Lib.hid hg5; have OR5 := Lib.hid hor5; clear ho5 hg5 hor5))
   have hs0 := b1.out.size
   have hs3 := HZ3.out
   have hs4 := b4.out.size
   have hs5 := G5.out.size
   have LO : Hid (∀ g, u12.ownBlock = some g → w1.heap.size ≤ g ∧ g < wr.heap.size) := World.ownsRow.lt HO.out
   have N3 : Hid (∀ g, u12.ownBlock = some g → v3.ownBlock ≠ some g) := fun g hg h => by
    rcases HR3.out with e | e
    ·exact HN.out g hg (e.symm.trans h)
    ·have := e g h; have := (LO.out g hg).2; omega
   have N3T : Hid (∀ n, T3 n → some n ≠ u12.ownBlock) := fun n hn e => (HT3.out.2 n hn).elim (fun h => HNT.out n h e) (fun h => by have := (LO.out n e.symm).2; omega)
   have NT : Hid (Tg T0 w T3) := HTg.out.trans HT3.out HBw.out.size
   have NM4 := Lib.hid (HM3.out.below b4.out)
   have BG : Hid (But (fun k => some k = u12.ownBlock) w4 w5) := ⟨G5.out.os, G5.out.tape, G5.out.output, G5.out.size, fun k hk hne => G5.out.block k hk (fun e => hne e)⟩
   have NM : Hid (MaV w5 B v3 T3 Mk ys3) := NM4.out.off BG.out (fun g hg e => N3.out g e.symm hg) (fun n hn e => N3T.out n hn e)
   have NNT : Hid (∀ n, T3 n → some n ≠ v5.ownBlock) := fun n hn h => by
    rcases OR5.out with e | e
    ·exact N3T.out n hn (h.trans e)
    ·rw [e] at h; injection h with h; have := (HM3.out.sub n hn).2.1; omega
   have NN : Hid (∀ g, v5.ownBlock = some g → v3.ownBlock ≠ some g) := fun g hg h => by
    rcases OR5.out with e | e
    ·exact N3.out g (e.symm.trans hg) h
    ·rw [e] at hg; injection hg with hg; have := (HM3.out.lt g h).2; omega
   have NB : Hid (But (fun k => some k = v.ownBlock) w w5) := ((HBw.out.rowv HB3.out (HR.out.wk hs0)).trans (But.of_below (S := fun _ => False) b4.out) (fun _ _ h => h.elim)).trans BG.out (fun n hn e => by have := (LO.out n e.symm).1; omega)
   have NR : Hid (RowTo w1 v v3) := HR.out.trans HR3.out HZ.out
   have NC : Hid (Blk w5 w.heap.size 102 C) := ((HC.out.but HB3.out (fun e => by
    rcases HR.out with h | h
    ·rw [h] at e; have := (HMA.out.lt _ e.symm).2; omega
    ·have := h _ e.symm; have := s1.out; omega)).below b4.out (by have := s1.out; omega)).but BG.out (fun e => by have := (LO.out _ e.symm).1; have := s1.out; omega)
   go_roundw
   case rel => exact ⟨j + 1, ns ++ [fi], Mk, ys3, T3, by omega, by go_num, by rw [List.length_append, hns]; rfl, by have := HSL.out; have := HCL.out; omega, ⟨by rw [HE.out.1, HDR.out]; simp, by rw [HE.out.2, HDR.out]⟩, NM, NT, O5, NN, NNT, NB, NR, NC, by (show _ ≤ _; omega)⟩
   case measure => simp [intOf]; omega
  ·obtain rfl : j = l.length := by omega
   have hlt' : ¬ ((l.length : Int) < (l.length : Int)) := by omega
   have E1 : Hid ((compA l M nx).1 = ns) := by
    have h := HE.out.1
    rw [List.drop_of_length_le (Nat.le_refl _), compA, List.append_nil] at h
    exact h
   have E2 : Hid ((compA l M nx).2 = Mj) := by
    have h := HE.out.2
    rw [List.drop_of_length_le (Nat.le_refl _), compA] at h
    exact h
   have LO : Hid (∀ g, u12.ownBlock = some g → w1.heap.size ≤ g ∧ g < wr.heap.size) := World.ownsRow.lt HO.out
   obtain ⟨A1, cap1, rfl, -⟩ := HM.out.form
   obtain ⟨A2, cap2, rfl, hnum⟩ := HO.out.num
   have HNUM := Lib.hid hnum
   have hMl : Mj.length ≤ 99999 := by omega
   have hnl : Hid (ns.length ≤ 1001) := by have := HLL.out; show _ ≤ _; omega
   clear hnum HE
   go_wp2_with (first
    | ((with_reducible refine wpList_build_abs (o := ⟨_, .build 149 _, _, _, _, _⟩) rfl 149 _ rfl [(2, .slice A2 ns.length cap2)] ?_ (S (.slice A2 ns.length cap2)) (HB.out _ _ _) ?_); (· first | (simp; done) | (simp only [List.map_toArray, List.map_cons, List.map_nil]; rfl) | (simp; exact ⟨rfl, rfl⟩)))
    | ((with_reducible refine wpList_buildSlice_abs (o := ⟨_, .buildSlice 145 1 #[(0, .tmp 119)], _, _, _, _⟩) rfl 145 149 _ rfl (S (.slice A2 ns.length cap2)) ?_ 258 (HS1.out _ _ _).1 (by decide) (by decide) zz Tryz.underlying145 IS.out ?_); (· rfl); intro g4 w4 e4 k4 b4 s4)
    | (at_builtin; refine wpList_append_own_at _ rfl (.tmp 117) (.tmp 120) 145 rfl B 149 ii zz 258 288 Tryz.underlying145 HI.out HZ0.out HZ1.out HZ2.out HZS.out (by decide) (.slice A1 Mj.length cap1) Mj.length ys rfl ((HM.out.below b4.out).row) ⟨g4, 0, none⟩ 1 1 (S (.slice A2 ns.length cap2)) rfl (by rw [(HS1.out _ _ _).1]) (fun j u hu => by have h := k4.out.range j u hu; rw [Nat.zero_add] at h; rw [Addr.add_mid, Nat.zero_add]; exact h) ((HS1.out _ _ _).2) (by simp only [maxLen]; omega) (by omega) (by have := HM.out.le; have := b4.out.size; omega) ?_; intro v5 w5 ho5 hg5 _ hor5; have O5 := Lib.hid ho5; have G5 := Lib.hid hg5; have OR5 := Lib.hid hor5; clear ho5 hg5 hor5))
   have hs0 := b1.out.size
   have hs4 := b4.out.size
   have hz := HZ.out
   have HST : Hid (StV w4 (fun n => (Value.slice A2 ns.length cap2).ownBlock = some n) (S (.slice A2 ns.length cap2)) ⟨false, none_, ns⟩) := by
    refine ⟨A2, cap2, by rw [HSE.out], by have := hnl.out; show ns.length ≤ _; omega, fun hne => ?_⟩
    obtain ⟨g, h1, h2, h3⟩ := HNUM.out hne
    exact ⟨g, h1, h2, fun i hi => (b4.out.cell (p := ⟨g, i, none⟩) (LO.out g h2).2).trans (h3 i hi)⟩
   have NM := Lib.hid (HM.out.grow b4.out HST.out (fun n hn => ⟨by have := (LO.out n hn).1; have := HMA.out.le; omega, by have := (LO.out n hn).2; omega, fun h => HN.out n hn h.symm⟩) O5.out G5.out OR5.out)
   have NT : Hid (Tg T0 w (fun n => T1 n ∨ (Value.slice A2 ns.length cap2).ownBlock = some n)) := ⟨fun n h => .inl (HTg.out.1 n h), fun n h => h.elim (HTg.out.2 n) (fun h => .inr (by have := (LO.out n h).1; omega))⟩
   have NB : Hid (But (fun k => some k = v.ownBlock) w w5) := HBw.out.rowv (grown_but b4.out G5.out).1 (HR.out.wk hs0)
   have NR : Hid (RowTo w v v5) := (HR.out.wk hs0).trans (row_to (w := wr) OR5.out hs4) HBw.out.size
   go_ret2
   refine ⟨v5, _, _, ?_, by rw [E1.out, E2.out]; exact NM, NT, NB, NR⟩
   rw [E2.out]
   rfl
theorem compile_all : ∀ (n : Nat) (r : Re), SizeOf.sizeOf r < n → Cmp45 r
 | 0, _, hn => by omega
 | n + 1, .byte c, hn => cmp_byte c
 | n + 1, .cls f, hn => cmp_cls f
 | n + 1, .cat l, hn => cmp_cat l (fun r hr => compile_all n r (by have := List.sizeOf_lt_of_mem hr; simp at hn; omega))
 | n + 1, .alt l, hn => cmp_alt l (fun r hr => compile_all n r (by have := List.sizeOf_lt_of_mem hr; simp at hn; omega))
 | n + 1, .star r, hn => cmp_star r (compile_all n r (by simp at hn; omega))
 | n + 1, .plus r, hn => cmp_plus r (compile_all n r (by simp at hn; omega))
end Go.Proofs.YtdeppcddknakjaaGreatDoor.Rx
namespace Go.Proofs.YtdeppcddknakjaaGreatDoor.Rx
open Go.RowKit
/-- Every state leads to states below K; one that reads leads to one. -/
def Wf (K : Nat) (m : List St) : Prop := ∀ (i : Nat) (st : St), m[i]? = some st → (∀ y ∈ st.next, y < K) ∧ (st.reads = true → ∃ x, st.next = [x])
theorem Wf.mono {K K' : Nat} {m : List St} (h : Wf K m) (hk : K ≤ K') : Wf K' m := fun i st hi => ⟨fun y hy => Nat.lt_of_lt_of_le ((h i st hi).1 y hy) hk, (h i st hi).2⟩
theorem Wf.snoc {K : Nat} {m : List St} {x : St} (h : Wf K m) (h1 : ∀ y ∈ x.next, y < K) (h2 : x.reads = true → ∃ y, x.next = [y]) : Wf K (m ++ [x]) := fun i st hi => by
 rcases Nat.lt_or_ge i m.length with hl | hl
 ·rw [List.getElem?_append_left hl] at hi; exact h i st hi
 ·rw [List.getElem?_append_right hl] at hi
  cases hj : i - m.length with
  | zero => rw [hj] at hi; cases hi; exact ⟨h1, h2⟩
  | succ k => rw [hj] at hi; simp at hi
theorem Wf.set {K k : Nat} {m : List St} {x : St} (h : Wf K m) (h1 : ∀ y ∈ x.next, y < K) (h2 : x.reads = true → ∃ y, x.next = [y]) : Wf K (m.set k x) := fun i st hi => by
 by_cases e : k = i
 ·subst e
  rw [List.getElem?_set] at hi
  split at hi
  ·split at hi
   ·cases hi; exact ⟨h1, h2⟩
   ·cases hi
  ·exact h _ st hi
 ·rw [List.getElem?_set_ne e] at hi
  exact h i st hi
mutual
theorem comp_wf : ∀ (r : Re) (m : List St) (nx : Nat), nx < m.length → Wf m.length m → (comp r m nx).1 < (comp r m nx).2.length ∧ Wf (comp r m nx).2.length (comp r m nx).2
 | .byte c, m, nx, hn, hm => by
  rw [comp]
  refine ⟨by simp, (hm.mono (by simp)).snoc (fun y hy => ?_) (fun _ => ⟨nx, rfl⟩)⟩
  rw [List.mem_singleton] at hy
  rw [hy, List.length_append]
  omega
 | .cls f, m, nx, hn, hm => by
  rw [comp]
  refine ⟨by simp, (hm.mono (by simp)).snoc (fun y hy => ?_) (fun _ => ⟨nx, rfl⟩)⟩
  rw [List.mem_singleton] at hy
  rw [hy, List.length_append]
  omega
 | .cat l, m, nx, hn, hm => by rw [comp]; exact compC_wf l m nx hn hm
 | .alt l, m, nx, hn, hm => by
  have h := compA_wf l m nx hn hm
  rw [comp]
  refine ⟨by simp, (h.2.mono (by simp)).snoc (fun y hy => ?_) (fun h => by cases h)⟩
  have := h.1 y hy
  rw [List.length_append]
  omega
 | .star r, m, nx, hn, hm => by
  have h := comp_wf r (m ++ [⟨false, none_, []⟩]) m.length (by simp) ((hm.mono (by simp)).snoc (fun y hy => by cases hy) (fun h => by cases h))
  have hl := (comp_ext r (m ++ [⟨false, none_, []⟩]) m.length).len
  rw [List.length_append, List.length_singleton] at hl
  rw [comp]
  refine ⟨by rw [List.length_set]; show m.length < _; omega, ?_⟩
  rw [List.length_set]
  refine h.2.set (fun y hy => ?_) (fun h => by cases h)
  simp only [List.mem_cons, List.not_mem_nil, or_false] at hy
  rcases hy with rfl | rfl
  ·exact h.1
  ·omega
 | .plus r, m, nx, hn, hm => by
  have h := comp_wf r (m ++ [⟨false, none_, []⟩]) m.length (by simp) ((hm.mono (by simp)).snoc (fun y hy => by cases hy) (fun h => by cases h))
  have hl := (comp_ext r (m ++ [⟨false, none_, []⟩]) m.length).len
  rw [List.length_append, List.length_singleton] at hl
  rw [comp]
  refine ⟨by rw [List.length_set]; exact h.1, ?_⟩
  rw [List.length_set]
  refine h.2.set (fun y hy => ?_) (fun h => by cases h)
  simp only [List.mem_cons, List.not_mem_nil, or_false] at hy
  rcases hy with rfl | rfl
  ·exact h.1
  ·omega
theorem compC_wf : ∀ (l : List Re) (m : List St) (nx : Nat), nx < m.length → Wf m.length m → (compC l m nx).1 < (compC l m nx).2.length ∧ Wf (compC l m nx).2.length (compC l m nx).2
 | [], m, nx, hn, hm => by rw [compC]; exact ⟨hn, hm⟩
 | r :: l, m, nx, hn, hm => by
  have h := compC_wf l m nx hn hm
  rw [compC]
  exact comp_wf r _ _ h.1 h.2
theorem compA_wf : ∀ (l : List Re) (m : List St) (nx : Nat), nx < m.length → Wf m.length m → (∀ y ∈ (compA l m nx).1, y < (compA l m nx).2.length) ∧ Wf (compA l m nx).2.length (compA l m nx).2
 | [], m, nx, hn, hm => by rw [compA]; exact ⟨fun y hy => (by cases hy), hm⟩
 | r :: l, m, nx, hn, hm => by
  have h := comp_wf r m nx hn hm
  have hl := (comp_ext r m nx).len
  have h2 := compA_wf l (comp r m nx).2 nx (by omega) h.2
  have hl2 := (compA_ext l (comp r m nx).2 nx).len
  rw [compA]
  refine ⟨fun y hy => ?_, h2.2⟩
  rcases List.mem_cons.1 hy with rfl | hy
  ·exact Nat.lt_of_lt_of_le h.1 hl2
  ·exact h2.1 y hy
end
theorem mach_wf (r : Re) : start r < (mach r).length ∧ Wf (mach r).length (mach r) := comp_wf r [⟨false, none_, []⟩] 0 (by simp) (fun i st hi => by
 cases i with
 | zero => cases hi; exact ⟨fun y hy => (by cases hy), fun h => by cases h⟩
 | succ k => simp at hi)
/-! Sets of states: rows of booleans. -/
def bitC (n : Nat) (b : Nat → Bool) : List Value := (List.range n).map (fun k => Value.bool (b k))
theorem bitC_len (n : Nat) (b : Nat → Bool) : (bitC n b).length = n := by unfold bitC; rw [List.length_map, List.length_range]
theorem bitC_at {n : Nat} (b : Nat → Bool) {j : Nat} (h : j < n) : (bitC n b)[j]? = some (.bool (b j)) := by unfold bitC; rw [List.getElem?_map, List.getElem?_range h]; rfl
def upd (b : Nat → Bool) (i : Nat) (x : Nat) : Bool := if x = i then true else b x
theorem bitC_set (n : Nat) (b : Nat → Bool) (i : Nat) : (bitC n b).set i (.bool true) = bitC n (upd b i) := by
 apply List.ext_getElem?
 intro j
 by_cases hj : j < n
 ·rw [bitC_at _ hj]
  by_cases e : i = j
  ·subst e
   rw [List.getElem?_set_self (by rw [bitC_len]; exact hj)]
   unfold upd
   rw [if_pos rfl]
  ·rw [List.getElem?_set_ne e, bitC_at _ hj]
   unfold upd
   rw [if_neg (fun h => e h.symm)]
 ·rw [List.getElem?_eq_none (by rw [List.length_set, bitC_len]; omega), List.getElem?_eq_none (by rw [bitC_len]; omega)]
/-- The slice at block g holds the set b of the first n numbers. -/
def BitV (w : World) (B g n cap : Nat) (b : Nat → Bool) : Prop := w.ownsRow B 4 1 (.slice (some ⟨g, 0, none⟩) n cap) n (bitC n b)
section
variable {w w' : World} {B g n cap : Nat} {b : Nat → Bool}
theorem BitV.cell (h : BitV w B g n cap b) {j : Nat} (hj : j < n) : w.cell? ⟨g, j, none⟩ = some (.bool (b j)) := (World.ownsRow.cellAt h j (by omega)).trans (bitC_at b hj)
theorem BitV.froz (h : BitV w B g n cap b) (j : Nat) : w.frozen? ⟨g, j, none⟩ = false := World.ownsRow.frozenAt h j
theorem BitV.lt (h : BitV w B g n cap b) : B ≤ g ∧ g < w.heap.size := World.ownsRow.lt h g rfl
theorem BitV.put (h : BitV w B g n cap b) (i : Nat) : BitV (w.setCell ⟨g, i, none⟩ (.bool true)) B g n cap (upd b i) ∧ But (· = g) w (w.setCell ⟨g, i, none⟩ (.bool true)) := by
 have := World.ownsRow.stored h i (.bool true)
 rw [bitC_set] at this
 exact ⟨this.1, But.setCell (S := (· = g)) (But.refl _ _) (p := ⟨g, i, none⟩) (fun _ => rfl) _⟩
theorem BitV.keep (h : BitV w B g n cap b) {S : Nat → Prop} (k : But S w w') (hs : ¬ S g) : BitV w' B g n cap b := World.ownsRow.on_but h k (fun i hi => by injection hi with hi; rw [← hi]; exact hs)
end
/-- How many are not in the set. -/
def outN (n : Nat) (b : Nat → Bool) : Nat := ((List.range n).filter (fun k => !b k)).length
theorem outN_le (n : Nat) {b b' : Nat → Bool} (h : ∀ x, x < n → b x = true → b' x = true) : outN n b' ≤ outN n b := by
 unfold outN
 rw [← List.countP_eq_length_filter, ← List.countP_eq_length_filter]
 refine List.countP_mono_left (fun x hx hb => ?_)
 have := h x (List.mem_range.1 hx)
 cases hbx : b x with
 | false => rfl
 | true => rw [this hbx] at hb; cases hb
theorem outN_upd {n i : Nat} {b : Nat → Bool} (hi : i < n) (hb : b i = false) : outN n (upd b i) < outN n b := by
 unfold outN
 rw [← List.countP_eq_length_filter, ← List.countP_eq_length_filter]
 have h1 : ∀ l : List Nat, l.Nodup → i ∈ l → l.countP (fun k => !upd b i k) < l.countP (fun k => !b k) := by
  intro l
  induction l with
  | nil => intro _ h; cases h
  | cons x l ih =>
   intro hn hm
   rw [List.countP_cons, List.countP_cons]
   have hle : l.countP (fun k => !upd b i k) ≤ l.countP (fun k => !b k) := List.countP_mono_left (fun y _ hy => by
    unfold upd at hy
    split at hy
    ·cases hy
    ·exact hy)
   by_cases e : x = i
   ·subst e
    have h2 : upd b x x = true := if_pos rfl
    rw [h2, hb]
    simp
    omega
   ·have hm' : i ∈ l := by
     rcases List.mem_cons.1 hm with h | h
     ·exact absurd h.symm e
     ·exact h
    have := ih (List.nodup_cons.1 hn).2 hm'
    have h2 : upd b i x = b x := if_neg e
    rw [h2]
    omega
 exact h1 _ List.nodup_range (List.mem_range.2 hi)
/-- What is in the set. -/
def InB (n : Nat) (b : Nat → Bool) (x : Nat) : Prop := x < n ∧ b x = true
theorem info4s : (Tryz.prog.info? 4).map (fun i => (i.zero, i.size)) = some (some (.bool false), 1) := by kernel_rfl
end Go.Proofs.YtdeppcddknakjaaGreatDoor.Rx
namespace Go.Proofs.YtdeppcddknakjaaGreatDoor.Rx
open Go.RowKit
theorem bitC_succ (n : Nat) : bitC (n + 1) (fun _ => false) = bitC n (fun _ => false) ++ [.bool false] := by
 unfold bitC
 rw [List.range_succ, List.map_append]
 rfl
theorem BitV.fresh {w w1 : World} {B : Nat} (hB : B ≤ w.heap.size) (h : w.alloc (.cells #[] 4) = w1) : BitV w1 B w.heap.size 0 0 (fun _ => false) := by
 subst h
 exact ⟨rfl, .inr ⟨w.heap.size, 0, #[], rfl, hB, heap_alloc_new w _, Nat.le_refl _, by decide, rfl, rfl⟩⟩
theorem own_pos {w : World} {B : Nat} {e : TypeId} {size n : Nat} {v : Value} {xs : List Value} (h : w.ownsRow B e size v n xs) (hn : 0 < n) : ∃ g cap, v = .slice (some ⟨g, 0, none⟩) n cap := by
 rcases h.2 with ⟨_, h0⟩ | ⟨g, cap, cur, rfl, _⟩
 ·omega
 ·exact ⟨g, cap, rfl⟩
/-- What empties returns. -/
def EmtP (n : Nat) (w : World) (e : Ending) (w' : World) : Prop := ∃ g cap, e = .returned (.slice (some ⟨g, 0, none⟩) n cap) ∧ Hid (BitV w' w.heap.size g n cap (fun _ => false)) ∧ Hid (Below w.heap.size w w')
set_option maxHeartbeats 4000000 in
set_option maxRecDepth 100000 in
theorem empties_any (n : Nat) (hn : n ≤ 1000000) (w : World) : Calls Tryz.prog 138 #[.int .i64 (n : Int)] w (EmtP n w) := by
 obtain ⟨i4, hI, hz0, hz1, hz2⟩ := info_parts info4
 have HI := Lib.hid hI
 have HZ0 := Lib.hid hz0
 have HZ1 := Lib.hid hz1
 have HZ2 := Lib.hid hz2
 clear hI hz0 hz1 hz2
 have HO1 : Hid (BitV (w.alloc (.cells #[] 4)) w.heap.size w.heap.size 0 0 (fun _ => false)) := BitV.fresh (Nat.le_refl _) rfl
 have HB1 : Hid (Below w.heap.size w (w.alloc (.cells #[] 4))) := (Below.refl _ _).alloc (Nat.le_refl _) _
 go_enter Tryz.func138, Tryz.ntmps138
 go_wp2_with fail
 go_loopw [3, 4] (fun v vi wr => ∃ j g cap : Nat, j ≤ n ∧ vi = .int .i64 (j : Int) ∧ v = .slice (some ⟨g, 0, none⟩) j cap ∧ Hid (BitV wr w.heap.size g j cap (fun _ => false)) ∧ Hid (Below w.heap.size w wr)) (fun _ vi _ => n - (intOf vi).toNat)
 case atStart => exact ⟨0, w.heap.size, 0, Nat.zero_le _, rfl, rfl, HO1, HB1⟩
 case round =>
  clear HO1 HB1
  obtain ⟨j, g, cap, hj, rfl, rfl, HO, HB⟩ := hrel
  have hj0 : (0 : Int) ≤ (j : Int) := Int.natCast_nonneg _
  by_cases hlt : j < n
  ·have hlt' : (j : Int) < (n : Int) := by omega
   go_wp2_with (first
    | ((with_reducible refine wpList_bs_one (o := ⟨_, .buildSlice 108 1 #[(0, .const (.bool false))], _, _, _, _⟩) rfl 108 4 _ rfl (.bool false) ?_ rfl (.bool false) Tryz.underlying108 info4s ?_); (· rfl); intro g4 w4 e4 k4 b4 s4)
    | (at_builtin; refine wpList_append_own_at _ rfl (.tmp 11) (.tmp 12) 108 rfl w.heap.size 4 i4 (.bool false) 1 1 Tryz.underlying108 HI.out HZ0.out HZ1.out HZ2.out rfl (by decide) (.slice (some ⟨g, 0, none⟩) j cap) j _ rfl (World.ownsRow.on_but HO.out (But.of_below (S := fun _ => False) b4.out) (fun _ _ => id)) ⟨g4, 0, none⟩ 1 1 [.bool false] rfl rfl (fun j u hu => by have h := k4.out.range j u hu; rw [Nat.zero_add] at h; rw [Addr.add_mid, Nat.zero_add]; exact h) (by simp [Value.oneCell']) (by simp only [maxLen]; omega) (by omega) (by have := HB.out.size; have := b4.out.size; omega) ?_; intro v5 w5 ho5 hg5 _ _; have O5 := Lib.hid ho5; have G5 := Lib.hid hg5; clear ho5 hg5))
   obtain ⟨g5, cap5, rfl⟩ := own_pos O5.out (by omega)
   have N5 : Hid (BitV w5 w.heap.size g5 (j + 1) cap5 (fun _ => false)) := by
    show BitV _ _ _ _ _ _
    unfold BitV
    rw [bitC_succ]
    exact O5.out
   have NB : Hid (Below w.heap.size w w5) := HB.out.trans ((grown_but b4.out G5.out).1.below HB.out.size (fun k hk => by have h : some k = some g := hk; injection h with h; rw [h]; exact HO.out.lt.1))
   go_roundw
   case rel => exact ⟨j + 1, g5, cap5, by omega, by go_num, rfl, N5, NB⟩
   case measure => simp [intOf]; omega
  ·obtain rfl : j = n := by omega
   have hlt' : ¬ ((j : Int) < (j : Int)) := by omega
   go_wp2_with fail
   go_ret
   exact ⟨g, cap, rfl, HO, HB⟩
theorem inB_upd {n i : Nat} (hi : i < n) (b : Nat → Bool) : InB n (upd b i) = fun x => InB n b x ∨ x = i := by
 funext x
 apply propext
 unfold InB upd
 by_cases e : x = i
 ·subst e; simp [hi]
 ·simp [e]
/-- What reach returns: the same slice, with all that follows from i. -/
def ReaQ (M : List St) (n g B cap : Nat) (b : Nat → Bool) (i : Nat) (w : World) (e : Ending) (w' : World) : Prop := ∃ b', e = .returned (.slice (some ⟨g, 0, none⟩) n cap) ∧ Hid (BitV w' B g n cap b') ∧ Hid (Reach M (InB n b) i (InB n b')) ∧ Hid (But (· = g) w w')
set_option maxHeartbeats 4000000 in
set_option maxRecDepth 100000 in
theorem reach_ref (B : Nat) (gm cm : Nat) (T : Nat → Prop) (M : List St) (xs : List Value) (B' g cap : Nat) (hwf : Wf M.length M) (hn : M.length ≤ 1000000) (hgm : gm ≠ g) (hgT : ¬ T g) : ∀ (k : Nat) (b : Nat → Bool) (i : Nat) (w : World), outN M.length b < k → i < M.length → MaV w B (.slice (some ⟨gm, 0, none⟩) M.length cm) T M xs → BitV w B' g M.length cap b →
  Calls Tryz.prog 137 #[.slice (some ⟨gm, 0, none⟩) M.length cm, .slice (some ⟨g, 0, none⟩) M.length cap, .int .i64 (i : Int)] w (ReaQ M M.length g B' cap b i w) := by
 intro k
 induction k with
 | zero => intro b i w h; omega
 | succ k IH =>
  intro b i w hk hi hm hb
  have HIH := Lib.hid IH
  have HM := Lib.hid hm
  have HB := Lib.hid hb
  have HWF := Lib.hid hwf
  have hi0 : (0 : Int) ≤ (i : Int) := Int.natCast_nonneg _
  have hi1 : (i : Int) < (M.length : Int) := by omega
  clear IH hm hwf
  cases hbi : b i with
  | true =>
   have cb : w.cell? ⟨g, i, none⟩ = some (.bool true) := by rw [hb.cell hi, hbi]
   clear hb
   go_enter Tryz.func137, Tryz.ntmps137
   go_wp2_with fail
   go_ret
   exact ⟨b, rfl, HB, Reach.there ⟨hi, hbi⟩, But.refl _ _⟩
  | false =>
   have cb : w.cell? ⟨g, i, none⟩ = some (.bool false) := by rw [hb.cell hi, hbi]
   have fb := hb.froz i
   obtain ⟨HP, HPB⟩ := hb.put i
   have HP := Lib.hid HP
   have HPB := Lib.hid HPB
   have HLT := Lib.hid (outN_upd hi hbi)
   have HBI := Lib.hid hbi
   obtain ⟨st, hst⟩ : ∃ st, st = M[i] := ⟨_, rfl⟩
   have HST := Lib.hid hst
   have HMI : Hid (M[i]? = some st) := by rw [hst]; exact List.getElem?_eq_getElem hi
   have ATW : Hid (∀ wr, But (· = g) w wr → MaV wr B (.slice (some ⟨gm, 0, none⟩) M.length cm) T M xs) := fun wr h => HM.out.off h (fun q hq e => by (have hq : some gm = some q := hq); injection hq with hq; exact hgm (hq.trans e)) (fun n hn e => hgT (by rw [← (show n = g from e)]; exact hn))
   clear hst hb hbi
   go_enter Tryz.func137, Tryz.ntmps137
   go_upto_region 4 with fail
   clear cb fb
   generalize w.setCell ⟨g, i, none⟩ (.bool true) = w1 at *
   go_wp2_with fail
   cases hrd : st.reads with
   | true =>
    obtain ⟨A, c2, -, -, hc0, -, -⟩ := (ATW.out w1 HPB.out).at_ rfl hi
    rw [← HST.out, hrd] at hc0
    have RR : Hid (Reach M (InB M.length b) i (InB M.length (upd b i))) := by
     show Reach _ _ _ _
     rw [inB_upd hi]
     exact Reach.reads HMI.out hrd
    go_loopw [1, 7] (fun v1 v7 wr => v1 = .slice (some ⟨g, 0, none⟩) M.length cap ∧ v7 = .int .i64 0 ∧ wr = w1) (fun _ _ _ => 0)
    case atStart => exact ⟨rfl, rfl, rfl⟩
    case round =>
     obtain ⟨rfl, rfl, rfl⟩ := hrel
     go_wp2_with fail
     go_ret
     exact ⟨upd b i, rfl, HP, RR, HPB⟩
   | false =>
    have P0 : Hid (Part M (InB M.length b) i st.next 0 (InB M.length (upd b i))) := by
     show Part _ _ _ _ _ _
     rw [inB_upd hi]
     exact Part.start
    have HRD := Lib.hid hrd
    clear hrd
    go_loopw [1, 7] (fun v1 v7 wr => ∃ (j : Nat) (b1 : Nat → Bool), j ≤ st.next.length ∧ v7 = .int .i64 (j : Int) ∧ v1 = .slice (some ⟨g, 0, none⟩) M.length cap ∧ Hid (BitV wr B' g M.length cap b1) ∧ Hid (Part M (InB M.length b) i st.next j (InB M.length b1)) ∧ Hid (But (· = g) w wr) ∧ Hid (∀ x, x < M.length → upd b i x = true → b1 x = true)) (fun _ v7 _ => st.next.length - (intOf v7).toNat)
    case atStart => exact ⟨0, upd b i, Nat.zero_le _, rfl, rfl, HP, P0, HPB, fun _ _ h => h⟩
    case round =>
     clear HP P0 HPB
     obtain ⟨j, b1, hj, rfl, rfl, HV, HPt, HBw, HU⟩ := hrel
     have HMr := Lib.hid (ATW.out wr HBw.out)
     obtain ⟨A, c2, hnum, hnl, hc0, -, hc2⟩ := HMr.out.at_ rfl hi
     rw [← HST.out, HRD.out] at hc0
     rw [← HST.out] at hnum hnl hc2
     have hj0 : (0 : Int) ≤ (j : Int) := Int.natCast_nonneg _
     have HNL := Lib.hid hnl
     by_cases hlt : j < st.next.length
     ·have hlt' : (j : Int) < (st.next.length : Int) := by omega
      obtain ⟨gn, rfl, -, hcs⟩ := hnum (by intro e; rw [e] at hlt; simp at hlt)
      have hcj := hcs j hlt
      have hy : st.next[j] < M.length := (HWF.out i st HMI.out).1 _ (List.getElem_mem hlt)
      have HR := Lib.hid (HIH.out b1 st.next[j] wr (by have := outN_le M.length HU.out; have := HLT.out; omega) hy HMr.out HV.out)
      have HSTEP : Hid (∀ b2, Reach M (InB M.length b1) st.next[j] (InB M.length b2) → Part M (InB M.length b) i st.next (j + 1) (InB M.length b2)) := fun b2 h => HPt.out.step hlt HMI.out HRD.out rfl h
      obtain ⟨y, hye⟩ : ∃ y, y = st.next[j] := ⟨_, rfl⟩
      rw [← hye] at hcj HR HSTEP
      clear hcs hnum hye hy
      go_wp2_with (go_at_call 137; (with_reducible refine HR.out.mono ?_); rintro e w3 ⟨b2, rfl, HV2, HR2, HB2⟩)
      have NP := Lib.hid (HSTEP.out b2 HR2.out)
      have NB : Hid (But (· = g) w w3) := HBw.out.trans HB2.out (fun _ _ h => h)
      have NU : Hid (∀ x, x < M.length → upd b i x = true → b2 x = true) := fun x hx h => (HR2.out.old x ⟨hx, HU.out x hx h⟩).2
      go_roundw
      case rel => exact ⟨j + 1, b2, by omega, by go_num, rfl, HV2, NP, NB, NU⟩
      case measure => simp [intOf]; omega
     ·obtain rfl : j = st.next.length := by omega
      have hlt' : ¬ ((st.next.length : Int) < (st.next.length : Int)) := by omega
      have RE := Lib.hid (HPt.out.end_ HMI.out)
      go_wp2_with fail
      go_ret
      exact ⟨b1, rfl, HV, RE, HBw⟩
end Go.Proofs.YtdeppcddknakjaaGreatDoor.Rx
namespace Go.Proofs.YtdeppcddknakjaaGreatDoor.Rx
open Go.RowKit
noncomputable def matB (r : Re) (l : List UInt8) : Bool := @decide (Mat r l) (Classical.propDecidable _)
theorem matB_is (r : Re) (l : List UInt8) : matB r l = true ↔ Mat r l := by unfold matB; exact @decide_eq_true_iff _ (Classical.propDecidable _)
theorem bool_eq {a b : Bool} {P : Prop} (h : a = true ↔ P) (k : b = true ↔ P) : a = b := Bool.eq_iff_iff.2 (h.trans k.symm)
theorem bitC_next (n : Nat) (f : Nat → Bool) : bitC (n + 1) f = bitC n f ++ [.bool (f n)] := by
 unfold bitC
 rw [List.range_succ, List.map_append]
 rfl
theorem BitV.base {w : World} {B B' g n cap : Nat} {b : Nat → Bool} (h : BitV w B g n cap b) (hB : B' ≤ B) : BitV w B' g n cap b := by
 refine ⟨h.1, ?_⟩
 rcases h.2 with h0 | ⟨q, c, cur, e, hb, hr⟩
 ·exact .inl h0
 ·exact .inr ⟨q, c, cur, e, Nat.le_trans hB hb, hr⟩
theorem BitV.one {w : World} {B g : Nat} {b : Nat → Bool} {u : Bool} (h : Blk w g 4 [.bool u]) (hB : B ≤ g) (hu : b 0 = u) : BitV w B g 1 1 b := by
 subst hu
 exact ⟨rfl, .inr ⟨g, 1, _, rfl, hB, h, Nat.le_refl _, by decide, rfl, rfl⟩⟩
theorem mach_pos (r : Re) : 0 < (mach r).length := (List.getElem?_eq_some_iff.1 (mach_zero r)).1
/-- What ends returns. -/
def EndQ (r : Re) (s : ByteArray) (w : World) (e : Ending) (w' : World) : Prop := ∃ g cap, e = .returned (.slice (some ⟨g, 0, none⟩) (s.size + 1) cap) ∧ Hid (BitV w' w.heap.size g (s.size + 1) cap (fun k => matB r (s.data.toList.take k))) ∧ Hid (Below w.heap.size w w')
theorem take_next {s : ByteArray} {i : Nat} (h : i < s.size) : s.data.toList.take (i + 1) = s.data.toList.take i ++ [s[i]] := by
 have hl : i < s.data.toList.length := by rw [size_len]; exact h
 rw [List.take_add_one, List.getElem?_eq_getElem hl]
 rfl
set_option maxHeartbeats 4000000 in
set_option maxRecDepth 100000 in
theorem ends_any (r : Re) (s : ByteArray) (hs : s.size ≤ 1000000) (T : Nat → Prop) (C : List Value) (w : World) (hr : ReV w T C r) (hT : ∀ n, T n → n < w.heap.size) (hl : sN r ≤ 90000) : Calls Tryz.prog 101 #[.agg C.toArray, .string s] w (EndQ r s w) := by
 have k1 : Hid (Blk (w.alloc (.cells C.toArray 102)) w.heap.size 102 C) := Blk.new w 102 C
 have b1 : Hid (Below w.heap.size w (w.alloc (.cells C.toArray 102))) := (Below.refl _ _).alloc (Nat.le_refl _) _
 obtain ⟨ii, hI, hz0, hz1, hz2⟩ := info_parts info80
 have HI := Lib.hid hI
 have HZ0 := Lib.hid hz0
 have HZ1 := Lib.hid hz1
 have HZ2 := Lib.hid hz2
 have IS := Lib.hid info80s
 have HZS : Hid ((Value.agg (stL false none_ (.slice none 0 0)).toArray).cells.size = 258) := by show (Value.agg (stL false none_ (.slice none 0 0)).toArray).cells.size = 258; simp [Value.cells, stL_len]
 clear hI hz0 hz1 hz2
 have B0 : Hid (Tryz.prog.built 149 [] = some (stL false none_ (.slice none 0 0)).toArray) := built_st0
 have SV : Hid (∀ V T, StV V T (stL false none_ (.slice none 0 0)) ⟨false, none_, []⟩) := fun V T => ⟨none, 0, rfl, by simp, fun h => absurd rfl h⟩
 generalize Value.agg (stL false none_ (.slice none 0 0)).toArray = zz at HZ0 IS HZS
 generalize stL false none_ (.slice none 0 0) = S0 at B0 SV
 obtain ⟨i4, hI4, hz3, hz4, hz5⟩ := info_parts info4
 have HJ := Lib.hid hI4
 have HJ0 := Lib.hid hz3
 have HJ1 := Lib.hid hz4
 have HJ2 := Lib.hid hz5
 clear hI4 hz3 hz4 hz5
 have HCL := Lib.hid hr.len
 obtain ⟨M, hM⟩ : ∃ M, M = mach r := ⟨_, rfl⟩
 obtain ⟨f, hf⟩ : ∃ f, f = start r := ⟨_, rfl⟩
 have HW : Hid (f < M.length ∧ Wf M.length M) := by rw [hM, hf]; exact mach_wf r
 have HP : Hid (0 < M.length) := by rw [hM]; exact mach_pos r
 have HML : Hid (M.length ≤ 100000) := by rw [hM]; show _ ≤ _; unfold mach; rw [comp_len]; simp; omega
 have HFM : Hid (∀ l b, Full M f l (InB M.length b) → b 0 = matB r l) := by
  rw [hM, hf]
  intro l b h
  refine bool_eq (P := Mat r l) ?_ (matB_is r l)
  rw [← full_mat h]
  exact ⟨fun h => ⟨mach_pos r, h⟩, fun h => h.2⟩
 have KC : Hid (∀ v xs V, But (fun _ => False) w V → MaV V w.heap.size v (fun _ => False) [⟨false, none_, []⟩] xs → Calls Tryz.prog 136 #[.agg C.toArray, v, .int .i64 0] V (CmpQ f M w.heap.size v (fun _ => False) V)) := fun v xs V hb h => by
  rw [hM, hf]
  exact compile_all _ r (Nat.lt_succ_self _) T C w.heap.size v _ _ xs 0 V (hr.keep (fun _ h => h) (fun b j hb2 => hb.cell (p := ⟨b, j, none⟩) (hT b hb2) id)) hT h (by simp; omega)
 clear hM hf hr
 have mixed : Tryz.prog.follows .mixedOrders = true := by kernel_rfl
 have KE := Lib.hid (fun V => empties_any M.length (by have := HML.out; omega) V)
 go_enter Tryz.func101, Tryz.ntmps101
 go_upto_region 2 with (first
  | ((with_reducible refine wpList_load_abs (o := ⟨_, .load 102 (.tmp 2), _, _, _, _⟩) rfl 102 _ rfl w.heap.size 0 ?_ C (k1.out.range) _ Tryz.underlying102 rfl 259 size50 HCL.out.1 ?_); (· rfl))
  | ((with_reducible refine wpList_build_abs (o := ⟨_, .build 149 _, _, _, _, _⟩) rfl 149 _ rfl [] ?_ S0 B0.out ?_); (· first | (simp; done) | (simp; rfl) | (simp; exact ⟨rfl, rfl⟩)))
  | ((with_reducible refine wpList_buildSlice_abs (o := ⟨_, .buildSlice 145 1 #[(0, .tmp 14)], _, _, _, _⟩) rfl 145 149 _ rfl S0 ?_ 258 (SV.out w (fun _ => True)).len.1 (by decide) (by decide) zz Tryz.underlying145 IS.out ?_); (· rfl); intro g3 w3 e3 k3 b3 s3; have hm3 : MaV w3 w.heap.size (.slice (some ⟨g3, 0, none⟩) 1 1) (fun _ => False) [⟨false, none_, []⟩] S0 := ⟨⟨(SV.out w3 (fun _ => True)).len.1, .inr ⟨g3, 1, S0.toArray, rfl, Nat.le_trans b1.out.size (Nat.le_of_eq e3.out), k3.out, Nat.le_refl _, by decide, (SV.out w3 (fun _ => True)).len.1, List.take_of_length_le (Nat.le_of_eq (SV.out w3 (fun _ => True)).len.1)⟩⟩, (StsL.nil w3 (fun _ => False)).snoc (SV.out _ _), fun n h => h.elim, Nat.le_trans b1.out.size b3.out.size⟩; have HM3 := Lib.hid hm3; clear hm3; have KC3 := Lib.hid (KC.out _ _ w3 (But.of_below (b1.out.trans (b3.out.mono b1.out.size))) HM3.out))
  | (go_at_call 136; (with_reducible refine KC3.out.mono ?_); rintro e w4 ⟨v4, xs4, T4, rfl, HM4, HT4, HB4, HR4⟩))
 obtain ⟨A4, cm, rfl, hA4⟩ := HM4.out.form
 obtain ⟨gm, rfl⟩ := hA4 (fun e => by have := HP.out; rw [e] at this; simp at this)
 have BW4 : Hid (Below w.heap.size w w4) := (b1.out.trans (b3.out.mono b1.out.size)).trans (HB4.out.below (Nat.le_trans b1.out.size b3.out.size) (fun n hn => by have h : some n = some g3 := hn; injection h with h; have := e3.out; have := b1.out.size; omega))
 obtain ⟨B5, hB5⟩ : ∃ B5, B5 = w4.heap.size := ⟨_, rfl⟩
 have HB5 : Hid (gm < B5 ∧ ∀ n, T4 n → n < B5) := ⟨by rw [hB5]; exact (HM4.out.lt gm rfl).2, fun n hn => by rw [hB5]; exact (HM4.out.sub n hn).2.1⟩
 have HB5w : Hid (B5 = w4.heap.size ∧ w.heap.size ≤ B5) := ⟨hB5, by rw [hB5]; exact BW4.out.size⟩
 have MK : Hid (∀ V, But (fun n => B5 ≤ n) w4 V → MaV V w.heap.size (.slice (some ⟨gm, 0, none⟩) M.length cm) T4 M xs4) := fun V h => HM4.out.off h (fun q hq e => by (have hq : some gm = some q := hq); injection hq with hq; have := HB5.out.1; omega) (fun n hn e => by have := HB5.out.2 n hn; omega)
 have KR : Hid (∀ g cap b i V, But (fun n => B5 ≤ n) w4 V → i < M.length → BitV V B5 g M.length cap b → Calls Tryz.prog 137 #[.slice (some ⟨gm, 0, none⟩) M.length cm, .slice (some ⟨g, 0, none⟩) M.length cap, .int .i64 (i : Int)] V (ReaQ M M.length g B5 cap b i V)) := fun g cap b i V h hi hb => reach_ref w.heap.size gm cm T4 M xs4 B5 g cap HW.out.2 (by have := HML.out; omega) (fun e => by have := HB5.out.1; have := hb.lt.1; omega) (fun h => by have := HB5.out.2 g h; have := hb.lt.1; omega) _ b i V (Nat.lt_succ_self _) hi (MK.out V h) hb
 clear hB5 KC e3 k3 b3 s3 HM3 KC3 HB4 HR4 HT4 k1 b1
 have hml := HML.out
 go_upto_region 3 with (first
  | (go_at_call 138; (with_reducible refine (KE.out _).mono ?_); rintro e w5 ⟨g5, cap5, rfl, hb5, b5⟩; have hb5' : BitV w5 B5 g5 M.length cap5 (fun _ => false) := hb5.out.base (Nat.le_of_eq HB5w.out.1); have HBt5 := Lib.hid hb5'; clear hb5 hb5'; have KR5 := Lib.hid (KR.out g5 cap5 (fun _ => false) f w5 ((But.of_below b5.out).mono (S' := fun n => B5 ≤ n) (fun n hn h => h)) HW.out.1 HBt5.out))
  | (go_at_call 137; (with_reducible refine KR5.out.mono ?_); rintro e w6 ⟨b6, rfl, HBt6, HR6, HB6⟩))
 have BN6 : Hid (But (fun n => B5 ≤ n) w4 w6) := ((But.of_below b5.out).mono (S' := fun n => B5 ≤ n) (fun n hn h => h)).trans HB6.out (fun n hn (e : n = g5) => by rw [e]; exact HBt5.out.lt.1)
 have HF6 : Hid (Full M f [] (InB M.length b6)) := full_nil (fun x h => by cases h.2) HR6.out
 have hc6 : w6.cell? ⟨g5, 0, none⟩ = some (.bool (b6 0)) := HBt6.out.cell HP.out
 have hp0 : (0 : Int) < (M.length : Int) := by have := HP.out; omega
 go_wp2_with (first
  | ((with_reducible refine wpList_bs_one (o := ⟨_, .buildSlice 108 1 #[(0, .tmp 27)], _, _, _, _⟩) rfl 108 4 _ rfl (.bool (b6 0)) ?_ rfl (.bool false) Tryz.underlying108 info4s ?_); (· rfl); intro g7 w7 e7 k7 b7 s7))
 have BB7 := Lib.hid b7.out
 have O7 : Hid (BitV w7 B5 g7 1 1 (fun k => matB r (s.data.toList.take k))) := BitV.one k7.out (by have := e7.out; have := BN6.out.size; have := HB5w.out.1; omega) (by show matB r (s.data.toList.take 0) = _; rw [List.take_zero]; exact (HFM.out _ _ HF6.out).symm)
 have S7 : Hid (BitV w7 B5 g5 M.length cap5 b6) := HBt6.out.keep (But.of_below (S := fun _ => False) b7.out) id
 have N7 : Hid (g5 ≠ g7) := fun e => by have := HBt6.out.lt.2; have := e7.out; omega
 have BN7 : Hid (But (fun n => B5 ≤ n) w4 w7) := BN6.out.trans (But.of_below (S := fun _ => False) b7.out) (fun _ _ h => h.elim)
 clear hc6 e7 k7 b7 s7 HBt6 HBt5 HB6 HR6 KR5 b5 BB7
 go_loopw [7, 8, 9] (fun v7 v8 v9 wr => ∃ (i : Nat) (b : Nat → Bool) (gs caps go capo : Nat), i ≤ s.size ∧ v9 = .int .i64 (i : Int) ∧ v7 = .slice (some ⟨gs, 0, none⟩) M.length caps ∧ v8 = .slice (some ⟨go, 0, none⟩) (i + 1) capo ∧ Hid (BitV wr B5 gs M.length caps b) ∧ Hid (BitV wr B5 go (i + 1) capo (fun k => matB r (s.data.toList.take k))) ∧ Hid (gs ≠ go) ∧ Hid (Full M f (s.data.toList.take i) (InB M.length b)) ∧ Hid (But (fun n => B5 ≤ n) w4 wr)) (fun _ _ v9 _ => s.size - (intOf v9).toNat)
 case atStart => exact ⟨0, b6, g5, cap5, g7, 1, Nat.zero_le _, rfl, rfl, rfl, S7, O7, N7, HF6, BN7⟩
 case round =>
  clear S7 O7 N7 HF6 BN7
  obtain ⟨i, b, gs, caps, go, capo, hi, rfl, rfl, rfl, HS, HO, HNE, HF, HBr⟩ := hrel
  have hi0 : (0 : Int) ≤ (i : Int) := Int.natCast_nonneg _
  by_cases hlt : i < s.size
  ·have hlt' : (i : Int) < (s.size : Int) := by omega
   have HTN := Lib.hid (take_next hlt)
   go_upto_region 8 with (go_at_call 138; (with_reducible refine (KE.out _).mono ?_); rintro e wa ⟨ga, capa, rfl, hba, bba⟩)
   have hzr : Hid (B5 ≤ wr.heap.size) := by have := HBr.out.size; have := HB5w.out.1; show _ ≤ _; omega
   have HVa : Hid (BitV wa B5 ga M.length capa (fun _ => false)) := hba.out.base hzr.out
   have HGA : Hid (wr.heap.size ≤ ga) := hba.out.lt.1
   have HBa : Hid (But (fun n => B5 ≤ n) w4 wa) := HBr.out.trans (But.of_below (S := fun _ => False) bba.out) (fun _ _ h => h.elim)
   have HSa : Hid (BitV wa B5 gs M.length caps b) := HS.out.keep (But.of_below (S := fun _ => False) bba.out) id
   have HOa : Hid (BitV wa B5 go (i + 1) capo (fun k => matB r (s.data.toList.take k))) := HO.out.keep (But.of_below (S := fun _ => False) bba.out) id
   have HGN : Hid (gs ≠ ga ∧ go ≠ ga) := ⟨by have := HS.out.lt.2; have := HGA.out; omega, by have := HO.out.lt.2; have := HGA.out; omega⟩
   have HB0 : Hid (Bit M (InB M.length b) s[i] 0 (InB M.length (fun _ => false))) := Bit.start (fun x h => by cases h.2)
   clear hba bba HS HO
   go_wp2_with fail
   go_loopw [10, 11] (fun v10 v11 wr => ∃ (k : Nat) (bn : Nat → Bool), k ≤ M.length ∧ v11 = .int .i64 (k : Int) ∧ v10 = .slice (some ⟨ga, 0, none⟩) M.length capa ∧ Hid (BitV wr B5 ga M.length capa bn) ∧ Hid (Bit M (InB M.length b) s[i] k (InB M.length bn)) ∧ Hid (But (· = ga) wa wr)) (fun _ v11 _ => M.length - (intOf v11).toNat)
   case atStart => exact ⟨0, _, Nat.zero_le _, rfl, rfl, HVa, HB0, But.refl _ _⟩
   case round =>
    clear HVa HB0
    obtain ⟨k, bn, hk, rfl, rfl, HV, HBit, HBq⟩ := hrel
    have hk0 : (0 : Int) ≤ (k : Int) := Int.natCast_nonneg _
    have HBw : Hid (But (fun n => B5 ≤ n) w4 wr) := HBa.out.trans HBq.out (fun n hn (e : n = ga) => by rw [e]; exact HV.out.lt.1)
    by_cases hkl : k < M.length
    ·have hkl' : (k : Int) < (M.length : Int) := by omega
     have hbk : wr.cell? ⟨gs, k, none⟩ = some (.bool (b k)) := (HSa.out.keep HBq.out HGN.out.1).cell hkl
     obtain ⟨st, hst⟩ : ∃ st, st = M[k] := ⟨_, rfl⟩
     have HMK : Hid (M[k]? = some st) := by rw [hst]; exact List.getElem?_eq_getElem hkl
     have HMq := Lib.hid (MK.out wr HBw.out)
     obtain ⟨A, c2, hnum, -, hc0, hcA, hc2⟩ := HMq.out.at_ rfl hkl
     rw [← hst] at hnum hc0 hcA hc2
     have hc1 := hcA s[i]
     clear hcA
     have HNUM := Lib.hid hnum
     have HC2 := Lib.hid hc2
     have hu8 := s[i].toNat_lt
     clear hst hnum hc2
     obtain ⟨x1, hx1⟩ : ∃ x1, x1 = b k := ⟨_, rfl⟩
     obtain ⟨x2, hx2⟩ : ∃ x2, x2 = st.reads := ⟨_, rfl⟩
     obtain ⟨x3, hx3⟩ : ∃ x3, x3 = st.set s[i] := ⟨_, rfl⟩
     rw [← hx1] at hbk
     rw [← hx2] at hc0
     rw [← hx3] at hc1
     have HX1 := Lib.hid hx1
     have HX2 := Lib.hid hx2
     have HX3 := Lib.hid hx3
     clear hx1 hx2 hx3
     go_upto_region 11 with fail
     go_cut [65] (fun c wx => c = .bool (x1 && x2 && x3) ∧ ∃ nq, wx = wr.drewN nq)
     case first =>
      cases x1 with
      | false =>
       go_quiet (fail)
       go_wp2_with fail
       go_meet
       case rel => exact ⟨rfl, _, rfl⟩
      | true =>
       cases x2 with
       | false =>
        go_quiet (fail)
        go_wp2_with fail
        go_meet
        case rel => exact ⟨rfl, _, rfl⟩
       | true =>
        cases x3 with
        | false =>
         go_quiet (fail)
         go_wp2_with fail
         go_meet
         case rel => exact ⟨rfl, _, rfl⟩
        | true =>
         go_quiet (fail)
         go_wp2_with fail
         go_meet
         case rel => exact ⟨rfl, _, rfl⟩
     case rest =>
      obtain ⟨rfl, nq, hw⟩ := hcut
      have HVd : Hid (BitV wc B5 ga M.length capa bn) := by rw [hw]; exact HV.out
      have HBqd : Hid (But (· = ga) wa wc) := by rw [hw]; exact ⟨HBq.out.os, HBq.out.tape, HBq.out.output, HBq.out.size, HBq.out.block⟩
      have HBwd : Hid (But (fun n => B5 ≤ n) w4 wc) := by rw [hw]; exact ⟨HBw.out.os, HBw.out.tape, HBw.out.output, HBw.out.size, HBw.out.block⟩
      have hc2 : wc.cell? ⟨gm, k * 258 + 257, none⟩ = some (.slice A st.next.length c2) := by rw [hw]; exact HC2.out
      have HNd : Hid (NumV wc T4 A st.next) := by rw [hw]; exact HNUM.out
      clear hw hbk hc0 hc1 HV HBq HBw HC2 HNUM HMq
      cases hx : (x1 && x2 && x3) with
      | false =>
       have NB : Hid (Bit M (InB M.length b) s[i] (k + 1) (InB M.length bn)) := HBit.out.skip (fun ⟨h1, st', h2, h3, h4⟩ => by
        rw [HMK.out] at h2
        cases h2
        rw [HX1.out, HX2.out, HX3.out, h1.2, h3, h4] at hx
        cases hx)
       go_wp2_with fail
       go_roundw
       case rel => exact ⟨k + 1, bn, by omega, by go_num, rfl, HVd, NB, HBqd⟩
       case measure => simp [intOf]; omega
      | true =>
       simp only [Bool.and_eq_true] at hx
       obtain ⟨⟨hx1, hx2⟩, hx3⟩ := hx
       obtain ⟨y, hy⟩ := (HW.out.2 k st HMK.out).2 (HX2.out.symm.trans hx2)
       have hyM : y < M.length := (HW.out.2 k st HMK.out).1 y (by rw [hy]; simp)
       obtain ⟨gn, hA, -, hcs⟩ := HNd.out (by rw [hy]; simp)
       have hcy : wc.cell? ⟨gn, 0, none⟩ = some (.int .i64 (y : Int)) := by
        have := hcs 0 (by rw [hy]; simp)
        rw [this]
        congr 3
        simp [hy]
       rw [hA, show st.next.length = 1 by rw [hy]; rfl] at hc2
       have KR9 := Lib.hid (KR.out ga capa bn y wc HBwd.out hyM HVd.out)
       have HSTP : Hid (∀ U, Reach M (InB M.length bn) y U → Bit M (InB M.length b) s[i] (k + 1) U) := fun U h => HBit.out.step ⟨hkl, HX1.out.symm.trans hx1⟩ HMK.out (HX2.out.symm.trans hx2) (HX3.out.symm.trans hx3) hy h
       clear hcs hA hy hx1 hx2 hx3 HNd
       go_wp2_with (go_at_call 137; (with_reducible refine KR9.out.mono ?_); rintro e w9 ⟨b2, rfl, HV2, HR2, HB2⟩)
       have NB := Lib.hid (HSTP.out _ HR2.out)
       have NQ : Hid (But (· = ga) wa w9) := HBqd.out.trans HB2.out (fun _ _ h => h)
       go_roundw
       case rel => exact ⟨k + 1, b2, by omega, by go_num, rfl, HV2, NB, NQ⟩
       case measure => simp [intOf]; omega
    ·obtain rfl : k = M.length := by omega
     have hkl' : ¬ ((M.length : Int) < (M.length : Int)) := by omega
     have hzr : Hid (B5 ≤ wr.heap.size) := by have := HBw.out.size; have := HB5w.out.1; show _ ≤ _; omega
     have HOr : Hid (BitV wr B5 go (i + 1) capo (fun k => matB r (s.data.toList.take k))) := HOa.out.keep HBq.out HGN.out.2
     have HFN : Hid (Full M f (s.data.toList.take (i + 1)) (InB M.length bn)) := by
      show Full _ _ _ _
      rw [HTN.out]
      exact HBit.out.full HF.out
     have hcn : wr.cell? ⟨ga, 0, none⟩ = some (.bool (bn 0)) := HV.out.cell HP.out
     go_wp2_with (first
      | ((with_reducible refine wpList_bs_one (o := ⟨_, .buildSlice 108 1 #[(0, .tmp 80)], _, _, _, _⟩) rfl 108 4 _ rfl (.bool (bn 0)) ?_ rfl (.bool false) Tryz.underlying108 info4s ?_); (· rfl); intro g8 w8 e8 k8 b8 s8)
      | (at_builtin; refine wpList_append_own_at _ rfl (.tmp 77) (.tmp 81) 108 rfl B5 4 i4 (.bool false) 1 1 Tryz.underlying108 HJ.out HJ0.out HJ1.out HJ2.out rfl (by decide) (.slice (some ⟨go, 0, none⟩) (i + 1) capo) (i + 1) _ rfl (World.ownsRow.on_but HOr.out (But.of_below (S := fun _ => False) b8.out) (fun _ _ => id)) ⟨g8, 0, none⟩ 1 1 [.bool (bn 0)] rfl rfl (fun j u hu => by have h := k8.out.range j u hu; rw [Nat.zero_add] at h; rw [Addr.add_mid, Nat.zero_add]; exact h) (by simp [Value.oneCell']) (by simp only [maxLen]; omega) (by omega) (by have := hzr.out; have := b8.out.size; omega) ?_; intro v9 w9 ho9 hg9 _ hor9; have O9 := Lib.hid ho9; have G9 := Lib.hid hg9; have OR9 := Lib.hid hor9; clear ho9 hg9 hor9))
     obtain ⟨g9, cap9, rfl⟩ := own_pos O9.out (by omega)
     have BG9 : Hid (But (· = go) wr w9) := (grown_but b8.out G9.out).1.mono (fun n hn e => by have h : some n = some go := e; injection h)
     have N9 : Hid (BitV w9 B5 g9 (i + 1 + 1) cap9 (fun k => matB r (s.data.toList.take k))) := by
      show BitV _ _ _ _ _ _
      unfold BitV
      rw [bitC_next, ← HFM.out _ _ HFN.out]
      exact O9.out
     have NS9 : Hid (BitV w9 B5 ga M.length capa bn) := HV.out.keep BG9.out (fun e => HGN.out.2 e.symm)
     have NE9 : Hid (ga ≠ g9) := fun e => by
      rcases OR9.out with h | h
      ·have h : some g9 = some go := h
       injection h with h
       exact HGN.out.2 (h.symm.trans e.symm)
      ·have h : some g9 = some w8.heap.size := h
       injection h with h
       have := HV.out.lt.2
       have := b8.out.size
       omega
     have NB9 : Hid (But (fun n => B5 ≤ n) w4 w9) := HBw.out.trans BG9.out (fun n hn (e : n = go) => by rw [e]; exact HOr.out.lt.1)
     go_roundw
     case rel => exact ⟨i + 1, bn, ga, capa, g9, cap9, by omega, by go_num, rfl, rfl, NS9, N9, NE9, HFN, NB9⟩
     case measure => simp [intOf]; omega
  ·obtain rfl : i = s.size := by omega
   have hlt' : ¬ ((s.size : Int) < (s.size : Int)) := by omega
   have NB : Hid (Below w.heap.size w wr) := BW4.out.trans (HBr.out.below BW4.out.size (fun n hn => Nat.le_trans HB5w.out.2 hn))
   have NO := Lib.hid (HO.out.base HB5w.out.2)
   go_wp2_with fail
   go_ret
   exact ⟨go, capo, rfl, NO, NB⟩
end Go.Proofs.YtdeppcddknakjaaGreatDoor.Rx
namespace Go.Proofs.YtdeppcddknakjaaGreatDoor.Rx
open Go.RowKit
set_option maxHeartbeats 4000000 in
set_option maxRecDepth 100000 in
theorem match_ref_any (p s : ByteArray) (hs : s.size ≤ 1000000) (w : World) : Calls Tryz.prog 74 #[.string p, .string s] w (MatP p s w) := by
 have ZL := Lib.hid Z50_len
 have ZZ := Lib.hid zero50'
 generalize Z50 = Z at ZL ZZ
 have KP := Lib.hid (parse_ref_any p)
 go_enter Tryz.func74, Tryz.ntmps74
 go_upto_region 2 with (first
  | (go_at_call 98; (with_reducible refine (KP.out _).mono ?_); rintro e w1 ⟨C, n, rfl, HC, HN, HR, b1⟩)
  | ((with_reducible refine wpList_alloc_abs (o := ⟨some 5, .alloc 102, _, _, _, _⟩) rfl 102 rfl Z ZZ.out ?_); intro g2 w2 e2 k2 b2 s2)
  | ((with_reducible refine wpList_store_abs (o := ⟨_, .store 102 (.tmp 5) (.tmp 10), _, _, _, _⟩) rfl 102 _ _ rfl rfl g2 C ?_ ?_ 102 Z (k2.out) 259 size50 HC.out.1 ZL.out HC.out.2 ?_); (· rfl); (· rfl); intro w3 k3 b3 s3))
 have GG : Hid (w.heap.size ≤ w1.heap.size ∧ w1.heap.size = g2 ∧ g2 < w2.heap.size ∧ w3.heap.size = w2.heap.size) := ⟨b1.out.size, e2.out, k2.out.lt, s3.out⟩
 have BL : Hid (Below w.heap.size w w3) := b1.out.trans ((b2.out.mono b1.out.size).trans (b3.out.below (by have := GG.out; omega) (fun n hn => by have := GG.out; omega)))
 by_cases hc : check p.data.toList = 0
 ·obtain ⟨r, hp, hr⟩ := HR.out hc
  obtain rfl : n = 0 := HN.out.trans hc
  have hsn : sN r ≤ 90000 := by
   have h1 := parse_cost hp
   have h2 := (check_ok.1 hc).1
   omega
  have KE := Lib.hid (ends_any r s hs (Fresh w w1) C w3 (hr.keep (fun _ h => h) (fun b j hb => (b3.out.cell (p := ⟨b, j, none⟩) (by have := hb.2; have := GG.out; show b < _; omega) (fun (e : b = g2) => by have := hb.2; have := GG.out; omega)).trans (b2.out.cell (p := ⟨b, j, none⟩) hb.2))) (fun n hn => by have := hn.2; have := GG.out; omega) hsn)
  have HM : Hid (matB r s.data.toList = true ↔ MatS p.data.toList s.data.toList) := by
   show _ ↔ _
   rw [matB_is]
   constructor
   ·intro h
    exact ⟨r, hc, hp, h⟩
   ·rintro ⟨r', _, h2, h3⟩
    rw [hp] at h2
    cases h2
    exact h3
  have HT : Hid (s.data.toList.take s.size = s.data.toList) := List.take_of_length_le (by rw [size_len]; exact Nat.le_refl _)
  have hl0 : (0 : Int) ≤ (s.size : Int) := Int.natCast_nonneg _
  have hl1 : (s.size : Int) < (s.size : Int) + 1 := by omega
  have hl2 : (s.size : Int) < ((s.size + 1 : Nat) : Int) := by omega
  clear e2 k2 b2 s2 b3 s3 hp hr hc HN HR hsn
  go_wp2_with (first
   | ((with_reducible refine wpList_load_wanted (op := ⟨_, .load 102 (.tmp 5), _, _, _, _⟩) ?_ 102 _ rfl g2 0 ?_ C (k3.out.range) _ Tryz.underlying102 rfl 259 size50 HC.out.1 ?_); (· first | rfl | simp [Region.wanted, yielded]); (· rfl))
   | (go_at_call 101; (with_reducible refine KE.out.mono ?_); rintro e w4 ⟨g, cap, rfl, HV, b4⟩; have hcell : w4.cell? ⟨g, s.size, none⟩ = some (.bool (matB r (s.data.toList.take s.size))) := HV.out.cell (Nat.lt_succ_self _)))
  go_ret
  exact ⟨_, rfl, by rw [HT.out]; exact HM.out, BL.out.trans (b4.out.mono BL.out.size)⟩
 ·have hn0 : (n == 0) = false := beq_false_of_ne (fun e => hc (HN.out.symm.trans e))
  have HE : Hid (false = true ↔ MatS p.data.toList s.data.toList) := ⟨fun h => (by cases h), fun ⟨r, h, _⟩ => absurd h hc⟩
  clear hc
  go_wp2_with fail
  go_ret
  exact ⟨_, rfl, HE, BL.out⟩
theorem match_ref_is {p s : ByteArray} (hs : s.size ≤ 1000000) {m : Bool} (hm : m = true ↔ MatS p.data.toList s.data.toList) (V : World) : Calls Tryz.prog 74 #[.string p, .string s] V (EmpP m V) :=
 (match_ref_any p s hs V).mono fun e w' ⟨b, he, hb, hl⟩ => ⟨by rw [he, show b = m from Bool.eq_iff_iff.2 (hb.out.trans hm.symm)], hl⟩
end Go.Proofs.YtdeppcddknakjaaGreatDoor.Rx
