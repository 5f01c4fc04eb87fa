/- Layer 12: the program's joined. -/
import Derived.Maps.OwnIn
import Derived.Test.YtffnopdpndpngaaMh
import Derived.Test.YtffnopdpndpngaaMd
import Derived.Deep.RegionHeld3
set_option linter.unusedVariables false
set_option linter.unusedSimpArgs false
namespace Go.Proofs.Ytffnopdpndpngaa.Lh
open Go.RowKit Go.Shelf
attribute [local go_sem] Oper.semAt_some
def lstO (x y : H) : Int := if x.c = 0 then y.mn else if y.c = 0 then x.mn else min x.mn y.mn
/-- The counts of a histogram's buckets, with a lower precision. -/
def cnts (p : Int) (m : List B) (l : List It) : List B := l.foldl (fun m q => put (ixI p q.2.1) q.1 m) m
theorem cnts_snoc (p : Int) (m : List B) (l : List It) (q : It) : cnts p m (l ++ [q]) = put (ixI p q.2.1) q.1 (cnts p m l) := by unfold cnts; rw [List.foldl_append]; rfl
def Rj (x : It) : Prop := (1 ≤ x.1 ∧ x.1 ≤ 1048576) ∧ 0 ≤ x.2.1 ∧ x.2.1 ≤ 1099511627776
/-- But for one block, the first N lie as they lay. -/
structure But (N b : Nat) (W W' : World) : Prop where
  os : W'.os = W.os
  tape : W'.tape = W.tape
  output : W'.output = W.output
  size : W.heap.size ≤ W'.heap.size
  block : ∀ k < N, k ≠ b → W'.heap[k]? = W.heap[k]?
theorem But.refl (N b : Nat) (W : World) : But N b W W := ⟨rfl, rfl, rfl, Nat.le_refl _, fun _ _ _ => rfl⟩
theorem But.grown {N b : Nat} {W X Y : World} {row : Option Nat} (h : But N b W X) (hN : N ≤ X.heap.size) (hg : X.grownBy Y row) (hr : ∀ r, row = some r → r = b ∨ N ≤ r) : But N b W Y :=
  ⟨hg.os.trans h.os, hg.tape.trans h.tape, hg.output.trans h.output, Nat.le_trans h.size hg.size, fun k hk hkb => (hg.block k (Nat.lt_of_lt_of_le hk hN) (fun e => by rcases hr k e.symm with e' | e' <;> omega)).trans (h.block k hk hkb)⟩
theorem But.below {N b : Nat} {W X Y : World} (h : But N b W X) (hN : N ≤ X.heap.size) (hb : Below X.heap.size X Y) : But N b W Y :=
  ⟨hb.os.trans h.os, hb.tape.trans h.tape, hb.output.trans h.output, Nat.le_trans h.size hb.size, fun k hk hkb => (hb.block k (Nat.lt_of_lt_of_le hk hN)).trans (h.block k hk hkb)⟩
theorem But.all {N b M : Nat} {w W X : World} (h : But N b W X) (hb : Below M w W) (hM : M ≤ N) (hbM : M ≤ b) : Below M w X :=
  ⟨h.os.trans hb.os, h.tape.trans hb.tape, h.output.trans hb.output, Nat.le_trans hb.size h.size, fun k hk => (h.block k (by omega) (by omega)).trans (hb.block k hk)⟩
/-- The same, but it never panics. -/
def NP (Q : Exit → Act → World → Prop) : Exit → Act → World → Prop
  | .panic _, _, _ => False
  | e, a, w => Q e a w
theorem np_le {Q : Exit → Act → World → Prop} : ∀ e a w, NP Q e a w → Q e a w := fun e a w h => by
  cases e <;> first | exact h | exact h.elim
/-- A region that makes a block, in whatever order. -/
theorem region_law {F : Fence} {n : Nat} {P : Program} {c : Code} {Q : Exit → Act → World → Prop} {a : Act} {W : World} (Φ : Nat → World → Prop) (a' : Nat → Act) (h : ∀ x V, Φ x V → Q Exit.normal (a' x) V)
    (hr : (∀ x V, Φ x V → NP Q Exit.normal (a' x) V) → Code.wpIn F n P c (NP Q) a W) : Code.wpIn F n P c Q a W := Code.wpIn_mono np_le (hr h)
theorem region_np {F : Fence} {n : Nat} {P : Program} {c : Code} {Q : Exit → Act → World → Prop} {a : Act} {W : World} (hr : Code.wpIn F n P c (NP Q) a W) : Code.wpIn F n P c Q a W := Code.wpIn_mono np_le hr
/-- A histogram handed back, with an error. -/
def HOut (w : World) (r : H × Nat) (e : Ending) (w' : World) : Prop :=
  ∃ A c, e = .returned (.tuple #[hV r.1.p r.1.c r.1.s r.1.mn r.1.mx A r.1.bs.length c, .int .i64 (r.2 : Nat)]) ∧ LS w' w'.heap.size A r.1.bs ∧ (r.1.bs ≠ [] → ∃ b o, A = some ⟨b, o, none⟩ ∧ w.heap.size ≤ b) ∧ Below w.heap.size w w'
theorem leastOf_any (p1 k1 s1 n1 m1 p2 k2 s2 n2 m2 : Int) (A1 A2 : Option Addr) (j1 c1 j2 c2 : Nat) (w : World) :
    Calls Try.prog 64 #[hV p1 k1 s1 n1 m1 A1 j1 c1, hV p2 k2 s2 n2 m2 A2 j2 c2] w fun e w' => e = .returned (.int .i64 (if k1 = 0 then n2 else if k2 = 0 then n1 else min n1 n2)) ∧ w' = (w.alloc (.cells #[.int .i64 p1, .int .i64 k1, .int .i64 s1, .int .i64 n1, .int .i64 m1, .slice A1 j1 c1] 29)).alloc (.cells #[.int .i64 p2, .int .i64 k2, .int .i64 s2, .int .i64 n2, .int .i64 m2, .slice A2 j2 c2] 29) := by
  by_cases e1 : k1 = 0
  · subst e1
    rw [if_pos rfl]
    go_enter Try.func64, Try.ntmps64
    go_wp2
    go_ret
    exact ⟨rfl, rfl⟩
  · rw [if_neg e1]
    by_cases e2 : k2 = 0
    · subst e2
      rw [if_pos rfl]
      go_enter Try.func64, Try.ntmps64
      go_wp2
      go_ret
      exact ⟨rfl, rfl⟩
    · rw [if_neg e2]
      go_enter Try.func64, Try.ntmps64
      go_wp2
      go_ret
      exact ⟨rfl, rfl⟩
theorem sj_all {p1 k1 s1 n1 m1 p2 k2 s2 n2 m2 : Int} {A1 A2 : Option Addr} {j1 c1 j2 c2 : Nat} {w W1 V : World} (hW : W1 = (((w.alloc (.cells #[.int .i64 p1, .int .i64 k1, .int .i64 s1, .int .i64 n1, .int .i64 m1, .slice A1 j1 c1] 29)).alloc (.cells #[.int .i64 p2, .int .i64 k2, .int .i64 s2, .int .i64 n2, .int .i64 m2, .slice A2 j2 c2] 29)).alloc (.cells #[.int .i64 0, .int .i64 0, .int .i64 0, .int .i64 0, .int .i64 0, .slice none 0 0] 29))) (h : Below (w.heap.size + 3) W1 V) : V.cell? ⟨w.heap.size, 0, none⟩ = some (.int .i64 p1) ∧ V.cell? ⟨w.heap.size, 1, none⟩ = some (.int .i64 k1) ∧ V.cell? ⟨w.heap.size, 2, none⟩ = some (.int .i64 s1) ∧ V.cell? ⟨w.heap.size, 3, none⟩ = some (.int .i64 n1) ∧ V.cell? ⟨w.heap.size, 4, none⟩ = some (.int .i64 m1) ∧ V.cell? ⟨w.heap.size, 5, none⟩ = some (.slice A1 j1 c1) ∧ V.cell? ⟨w.heap.size + 1, 0, none⟩ = some (.int .i64 p2) ∧ V.cell? ⟨w.heap.size + 1, 1, none⟩ = some (.int .i64 k2) ∧ V.cell? ⟨w.heap.size + 1, 2, none⟩ = some (.int .i64 s2) ∧ V.cell? ⟨w.heap.size + 1, 3, none⟩ = some (.int .i64 n2) ∧ V.cell? ⟨w.heap.size + 1, 4, none⟩ = some (.int .i64 m2) ∧ V.cell? ⟨w.heap.size + 1, 5, none⟩ = some (.slice A2 j2 c2) ∧ Below (w.heap.size + 3) W1 V := by
  have a0 := HC.new w 29 p1 k1 s1 n1 m1 A1 j1 c1
  have b0 := HC.new (w.alloc (.cells #[.int .i64 p1, .int .i64 k1, .int .i64 s1, .int .i64 n1, .int .i64 m1, .slice A1 j1 c1] 29)) 29 p2 k2 s2 n2 m2 A2 j2 c2
  have hB1 : Below (w.heap.size + 1) (w.alloc (.cells #[.int .i64 p1, .int .i64 k1, .int .i64 s1, .int .i64 n1, .int .i64 m1, .slice A1 j1 c1] 29)) W1 := by rw [hW]; exact ((Below.refl _ _).alloc (by simp) _).alloc (by simp) _
  have hB2 : Below (w.heap.size + 2) ((w.alloc (.cells #[.int .i64 p1, .int .i64 k1, .int .i64 s1, .int .i64 n1, .int .i64 m1, .slice A1 j1 c1] 29)).alloc (.cells #[.int .i64 p2, .int .i64 k2, .int .i64 s2, .int .i64 n2, .int .i64 m2, .slice A2 j2 c2] 29)) W1 := by rw [hW]; exact (Below.refl _ _).alloc (by simp) _
  have a1 := (a0.keep (Nat.lt_succ_self _) hB1).keep (N := w.heap.size + 3) (by omega) h
  simp only [World.size_alloc] at b0
  have b1 := (b0.keep (N := w.heap.size + 2) (by omega) hB2).keep (N := w.heap.size + 3) (by omega) h
  obtain ⟨x0, x1, x2, x3, x4, x5⟩ := a1
  obtain ⟨y0, y1, y2, y3, y4, y5⟩ := b1
  exact ⟨x0, x1, x2, x3, x4, x5, y0, y1, y2, y3, y4, y5, h⟩
theorem sj_of {p1 k1 s1 n1 m1 p2 k2 s2 n2 m2 : Int} {A1 A2 : Option Addr} {j1 c1 j2 c2 : Nat} {w W1 V : World} (h : V.cell? ⟨w.heap.size, 0, none⟩ = some (.int .i64 p1) ∧ V.cell? ⟨w.heap.size, 1, none⟩ = some (.int .i64 k1) ∧ V.cell? ⟨w.heap.size, 2, none⟩ = some (.int .i64 s1) ∧ V.cell? ⟨w.heap.size, 3, none⟩ = some (.int .i64 n1) ∧ V.cell? ⟨w.heap.size, 4, none⟩ = some (.int .i64 m1) ∧ V.cell? ⟨w.heap.size, 5, none⟩ = some (.slice A1 j1 c1) ∧ V.cell? ⟨w.heap.size + 1, 0, none⟩ = some (.int .i64 p2) ∧ V.cell? ⟨w.heap.size + 1, 1, none⟩ = some (.int .i64 k2) ∧ V.cell? ⟨w.heap.size + 1, 2, none⟩ = some (.int .i64 s2) ∧ V.cell? ⟨w.heap.size + 1, 3, none⟩ = some (.int .i64 n2) ∧ V.cell? ⟨w.heap.size + 1, 4, none⟩ = some (.int .i64 m2) ∧ V.cell? ⟨w.heap.size + 1, 5, none⟩ = some (.slice A2 j2 c2) ∧ Below (w.heap.size + 3) W1 V) : Below (w.heap.size + 3) W1 V := h.2.2.2.2.2.2.2.2.2.2.2.2
theorem its_rj {h : H} (o : Ok h) : ∀ q ∈ its h.p h.mn h.mx 0 h.bs, Rj q := by
  have key : 0 ≤ h.mn ∧ h.mn ≤ 1099511627776 ∨ h.bs = [] := by
    by_cases e : h.bs = []
    · exact .inr e
    · refine .inl ?_
      have hc : h.c ≠ 0 := by
        rw [o.count]
        cases hb : h.bs with
        | nil => exact (e hb).elim
        | cons b r =>
          have hp := o.pos
          rw [hb] at hp
          obtain ⟨g1, g2⟩ := pos_cons.mp hp
          have := tot_nonneg g2
          rw [tot_cons]
          omega
      have F := o.fit hc
      exact ⟨F.mn0, by have := F.le; have := F.mx; omega⟩
  rcases key with ⟨h0, h1⟩ | e
  · have go : ∀ (l : List B) (a : Int), Pos l → (∀ x ∈ l, x.1 ≤ topI h.p ∧ x.2 ≤ 1048576) → ∀ q ∈ its h.p h.mn h.mx a l, Rj q := by
      intro l
      induction l with
      | nil => intro a _ _ q hq; cases hq
      | cons b r ih =>
        intro a hp hr q hq
        obtain ⟨g1, g2⟩ := pos_cons.mp hp
        rcases List.mem_cons.mp hq with e | e
        · rw [e]
          have g3 := hr b List.mem_cons_self
          have g4 := loI_le (p := h.p) g3.1
          refine ⟨⟨g1, g3.2⟩, ?_, ?_⟩
          · show 0 ≤ max (loI h.p b.1) h.mn
            omega
          · show max (loI h.p b.1) h.mn ≤ _
            omega
        · exact ih (a + b.2) g2 (fun x hx => hr x (List.mem_cons_of_mem _ hx)) q e
    exact go h.bs 0 o.pos fun x hx => (o.rng x hx).2
  · rw [e]
    intro q hq
    cases hq
theorem cnts_its (p P mn mx : Int) : ∀ (a : Int) (l : List B) (m : List B), cnts P m (its p mn mx a l) = puts (fun j => ixI P (max (loI p j) mn)) m l
  | _, [], _ => rfl
  | a, b :: r, m => by
    show cnts P (put (ixI P (max (loI p b.1) mn)) b.2 m) (its p mn mx (a + b.2) r) = puts (fun j => ixI P (max (loI p j) mn)) (put (ixI P (max (loI p b.1) mn)) b.2 m) r
    rw [cnts_its]
theorem cnts_bound {P : Int} {R : It → Prop} (hR : ∀ q, R q → 1 ≤ q.1 ∧ q.1 ≤ 1048576) : ∀ (l : List (QE R)) (m : List B), tot (cnts P m (valQ l)) ≤ tot m + 1048576 * l.length
  | [], m => by simp [valQ, cnts]
  | x :: r, m => by
    have h := cnts_bound (P := P) hR r (put (ixI P x.1.2.1) x.1.1 m)
    have e : cnts P m (valQ (x :: r)) = cnts P (put (ixI P x.1.2.1) x.1.1 m) (valQ r) := rfl
    rw [e, List.length_cons]
    rw [tot_put] at h
    have := hR x.1 x.2
    omega
theorem grown_after {W w5 w6 : World} {r : Option Nat} (hb : Below W.heap.size W w5) (hg : w5.grownBy w6 r) : W.grownBy w6 r :=
  ⟨hg.os.trans hb.os, hg.tape.trans hb.tape, hg.output.trans hb.output, Nat.le_trans hb.size hg.size, fun k hk hr => (hg.block k (Nat.lt_of_lt_of_le hk hb.size) hr).trans (hb.block k hk)⟩
theorem grown_afterd {W w5 w6 : World} {r : Option Nat} (hb : Below W.drew.heap.size W.drew w5) (hg : w5.grownBy w6 r) : W.grownBy w6 r := grown_after (W := W) ⟨hb.os, hb.tape, hb.output, hb.size, hb.block⟩ hg
theorem region_any {F : Fence} {n : Nat} {P : Program} {c : Code} {Q : Exit → Act → World → Prop} {a a' : Act} {W : World} (Φ : World → Prop) (h : ∀ V, Φ V → Q Exit.normal a' V)
    (hr : (∀ V, Φ V → NP Q Exit.normal a' V) → Code.wpIn F n P c (NP Q) a W) : Code.wpIn F n P c Q a W := Code.wpIn_mono np_le (hr h)
theorem cf_le_tot {m : List B} (hp : Pos m) (j : Int) : cf m j ≤ tot m := W_le hp fun y _ => by unfold one; split <;> omega
def JP (x y : H) : Int := min x.p y.p
/-- The counts of both. -/
def jb (x y : H) : List B := puts (fun j => ixI (min x.p y.p) (max (loI y.p j) y.mn)) (puts (fun j => ixI (min x.p y.p) (max (loI x.p j) x.mn)) [] x.bs) y.bs
def joinH (x y : H) : H := ⟨min x.p y.p, x.c + y.c, x.s + y.s, lstO x y, max x.mx y.mx, jb x y⟩
end Go.Proofs.Ytffnopdpndpngaa.Lh
