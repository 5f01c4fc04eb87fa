/- Layer 6: factor of the automaton. -/
import Derived.Deep.RegionWith
import Derived.Deep.CutRange
import Derived.Test.YtilfggnhaehbcaaQB
set_option linter.unusedVariables false
set_option linter.unusedSimpArgs false
namespace Go.Proofs.Ytilfggnhaehbcaa.Rx
open Go.RowKit
theorem PeV.rp {w : World} {T : Nat → Prop} {C : List Value} {p : Pe} (h : PeV w T C p) : C[259]? = some (.int .u8 (p.rp.b.toNat : Int)) := by
  cases p with
  | byte c r => rw [PeV] at h; subst h; exact (facL_at _ _ _ _ _).2.2.2
  | cls f r => rw [PeV] at h; subst h; exact (facL_at _ _ _ _ _).2.2.2
  | sub e r => rw [PeV] at h; obtain ⟨_, b, cap, h1, _⟩ := h; subst h1; exact (facL_at _ _ _ _ _).2.2.2
/-- The states of an automaton that has some. -/
theorem Aut.form {w : World} {B ab : Nat} {v : Value} {T : Nat → Prop} {M : List Nd} (h : Aut w B ab v T M) (h0 : 0 < M.length) : ∃ g cap cur, v = .slice (some ⟨g, 0, none⟩) M.length cap ∧ B ≤ g ∧ g ≠ ab ∧ w.heap[g]? = some (.cells cur 104 (0, 0)) ∧ M.length ≤ cur.size := by
  obtain ⟨xs, hr, _⟩ := h.row
  have hne := h.ne
  rcases hr.2 with ⟨_, h1⟩ | ⟨g, cap, cur, rfl, h1, h2, h3, h4, h5, h6⟩
  · omega
  · exact ⟨g, cap, cur, rfl, h1, fun e => hne (by rw [e]; rfl), h2, by rw [h5]; omega⟩
/-- A state is written anew. -/
theorem Aut.write {w : World} {B ab g cap : Nat} {T T1 : Nat → Prop} {M : List Nd} {fv : Value} {x : Nd} {k : Nat} (h : Aut w B ab (.slice (some ⟨g, 0, none⟩) M.length cap) T M) (hk : k < M.length) (hv : NdV w T1 fv x) (hT1 : ∀ n, T1 n → TA w B ab (.slice (some ⟨g, 0, none⟩) M.length cap) n) :
    Aut (w.setCell ⟨g, k, none⟩ fv) B ab (.slice (some ⟨g, 0, none⟩) (M.set k x).length cap) (fun n => T n ∨ T1 n) (M.set k x) := by
  rw [List.length_set]
  obtain ⟨n, hb⟩ := h.blk
  obtain ⟨xs, hr, hn⟩ := h.row
  have hne : g ≠ ab := fun e => h.ne (by rw [e]; rfl)
  have hkeep : ∀ b j, TA w B ab (.slice (some ⟨g, 0, none⟩) M.length cap) b → (w.setCell ⟨g, k, none⟩ fv).cell? ⟨b, j, none⟩ = w.cell? ⟨b, j, none⟩ := fun b j hb => World.cell?_setCell_other _ _ _ _ (fun e => by
    injection e with e _
    exact hb.2.2.2 (by rw [← e]; rfl))
  have hTT : ∀ b, TA w B ab (.slice (some ⟨g, 0, none⟩) M.length cap) b → TA (w.setCell ⟨g, k, none⟩ fv) B ab (.slice (some ⟨g, 0, none⟩) M.length cap) b := fun b hb => ⟨hb.1, by rw [World.size_setCell]; exact hb.2.1, hb.2.2⟩
  refine ⟨⟨n, hb.setOther hne fv⟩, h.base, ⟨xs.set k fv, ?_, (hn.keep (fun _ h => .inl h) (fun b j hb => hkeep b j (h.sub b hb))).set (hv.keep (fun _ h => .inr h) (fun b j hb => hkeep b j (hT1 b hb)))⟩, fun n hn => hTT n (by rcases hn with hn | hn; exact h.sub n hn; exact hT1 n hn)⟩
  refine ⟨by rw [List.length_set, List.length_set]; exact hr.1, ?_⟩
  rcases hr.2 with ⟨h0, _⟩ | ⟨g', cap', cur, e, h1, h2, h3, h4, h5, h6⟩
  · cases h0
  · injection e with e1 _ e2
    injection e1 with e1
    injection e1 with e1 _
    subst e1 e2
    refine .inr ⟨g, cap, cur.setIfInBounds k fv, by rw [List.length_set], h1, ?_, by rw [List.length_set]; exact h3, h4, by simpa using h5, ?_⟩
    · rw [setCell_eq_setRow w g k cur 104 (0, 0) fv h2]
      exact setRow_heap w g cur _ 104 _ h2
    · rw [List.length_set, Array.toList_setIfInBounds, Nat.mul_one, List.take_set, ← h6, Nat.mul_one]
theorem pair_fork (w : World) (i j : Nat) : NdV ((w.alloc (.cells #[.int .i64 (i : Int), .int .i64 (j : Int)] 3)).alloc (.cells #[.slice (some ⟨w.heap.size, 0, none⟩) 2 2] 78)) (fun n => w.heap.size ≤ n ∧ n < w.heap.size + 2) (.func (.func 82) #[] #[.pointer (some ⟨w.heap.size + 1, 0, none⟩)]) (.fork [i, j]) := by
  have h1 := (Blk.new (w.alloc (.cells #[.int .i64 (i : Int), .int .i64 (j : Int)] 3)) 78 [.slice (some ⟨w.heap.size, 0, none⟩) 2 2]).cell 0
  rw [World.size_alloc] at h1
  have h2 := (Blk.new w 3 [.int .i64 (i : Int), .int .i64 (j : Int)]).alloc (.cells #[.slice (some ⟨w.heap.size, 0, none⟩) 2 2] 78)
  refine ⟨w.heap.size + 1, some ⟨w.heap.size, 0, none⟩, 2, rfl, ⟨by omega, by omega⟩, h1, fun _ => ⟨w.heap.size, rfl, ⟨Nat.le_refl _, by omega⟩, fun k hk => ?_⟩⟩
  have h3 := h2.cell k
  match k, hk with
  | 0, _ => exact h3
  | 1, _ => exact h3
theorem pair_ta {w w2 : World} {B ab : Nat} {v : Value} {T : Nat → Prop} {M : List Nd} (ha : Aut w B ab v T M) (h : w.heap.size + 2 ≤ w2.heap.size) : ∀ n, w.heap.size ≤ n ∧ n < w.heap.size + 2 → TA w2 B ab v n := fun n hn => fresh_ta (w1 := w) (w2 := w2) ha (Nat.le_refl _) n ⟨hn.1, by omega⟩
theorem size102 : (Try.prog.info? 102).map (·.size) = some 1 := by kernel_rfl
set_option maxHeartbeats 4000000 in
set_option maxRecDepth 100000 in
theorem factor_one (p : Pe) (hp : p.rp = .one) (H : Atom86 p) : Fac81 p := by
  intro B ab v T M nx C w TT ha hpe hTT hnx hM
  rw [cF_cT, hp]
  have hM : M.length + 50000 * wT p ≤ 900000000 := by rw [wF_wT, hp] at hM; simp only [wR] at hM; omega
  have HCL := Lib.hid hpe.len
  have k1 : Hid (Blk (w.alloc (.cells C.toArray 47)) w.heap.size 47 C) := Blk.new w 47 C
  have b1 : Hid (Below w.heap.size w (w.alloc (.cells C.toArray 47))) := (Below.refl _ _).alloc (Nat.le_refl _) _
  have c0 := hpe.rp
  rw [hp] at c0
  have c1 : (w.alloc (.cells C.toArray 47)).cell? ⟨w.heap.size, 259, none⟩ = some (.int .u8 0) := (k1.out.cell 259).trans c0
  have CH : Hid (Calls Try.prog 86 #[.pointer (some ⟨ab, 0, none⟩), .agg C.toArray, .int .i64 (nx : Int)] (w.alloc (.cells C.toArray 47)) (AutP ab B v T (w.alloc (.cells C.toArray 47)) (cT p M nx).1 (cT p M nx).2)) :=
    H B ab v T M nx C _ TT (ha.on (S := fun _ => False) (But.of_below b1.out) (fun _ h => h.elim)) (PeV.keep (fun _ h => h) (fun g j hg => b1.out.cell (by have := hTT g hg; have := ha.base; have := ha.lt; show g < _; omega)) hpe) hTT hnx hM
  clear c0 ha hpe hTT
  go_enter Try.func81, Try.ntmps81
  go_wp2_with (first
    | ((with_reducible refine wpList_load_abs (o := ⟨_, .load 47 (.tmp 4), _, _, _, _⟩) rfl 47 _ rfl w.heap.size 0 ?_ C k1.out.range _ Try.underlying47 rfl 260 size47 HCL.out.1 ?_); (· rfl))
    | (go_at_call 86; (with_reducible refine CH.out.mono ?_); rintro e w3 ⟨rfl, v3, T3, a3, b3, r3, t3⟩))
  go_ret
  exact AutP.of ⟨rfl, v3, T3, a3, b3, r3, t3⟩ b1.out
set_option maxHeartbeats 4000000 in
set_option maxRecDepth 100000 in
theorem factor_opt (p : Pe) (hp : p.rp = .opt) (H : Atom86 p) : Fac81 p := by
  intro B ab v T M nx C w TT ha hpe hTT hnx hM
  rw [cF_cT, hp]
  have hM1 : M.length + 50000 * wT p ≤ 900000000 := by rw [wF_wT, hp] at hM; simp only [wR] at hM; omega
  have HCL := Lib.hid hpe.len
  have k1 : Hid (Blk (w.alloc (.cells C.toArray 47)) w.heap.size 47 C) := Blk.new w 47 C
  have b1 : Hid (Below w.heap.size w (w.alloc (.cells C.toArray 47))) := (Below.refl _ _).alloc (Nat.le_refl _) _
  have c0 := hpe.rp
  rw [hp] at c0
  have c1 : (w.alloc (.cells C.toArray 47)).cell? ⟨w.heap.size, 259, none⟩ = some (.int .u8 63) := (k1.out.cell 259).trans c0
  have HLN : Hid ((cT p M nx).2.length ≤ 1000000000) := by
    have h := cF_len (p.with .one) M nx
    have e1 : (cF (p.with .one) M nx).2.length = (cT p M nx).2.length := by
      rw [cF_cT]
      cases p <;> rfl
    have e2 : wF (p.with .one) = wT p := by
      rw [wF_wT]
      cases p <;> rfl
    show (cT p M nx).2.length ≤ 1000000000
    omega
  have CH : Hid (Calls Try.prog 86 #[.pointer (some ⟨ab, 0, none⟩), .agg C.toArray, .int .i64 (nx : Int)] (w.alloc (.cells C.toArray 47)) (AutP ab B v T (w.alloc (.cells C.toArray 47)) (cT p M nx).1 (cT p M nx).2)) :=
    H B ab v T M nx C _ TT (ha.on (S := fun _ => False) (But.of_below b1.out) (fun _ h => h.elim)) (PeV.keep (fun _ h => h) (fun g j hg => b1.out.cell (by have := hTT g hg; have := ha.base; have := ha.lt; show g < _; omega)) hpe) hTT hnx hM1
  clear c0 ha hpe hTT hM hM1
  show Calls _ _ _ _ (AutP ab B v T w (cT p M nx).2.length ((cT p M nx).2 ++ [.fork [(cT p M nx).1, nx]]))
  generalize cT p M nx = q at *
  obtain ⟨i, M1⟩ := q
  go_enter Try.func81, Try.ntmps81
  go_wp2_with (first
    | ((with_reducible refine wpList_load_abs (o := ⟨_, .load 47 (.tmp 4), _, _, _, _⟩) rfl 47 _ rfl w.heap.size 0 ?_ C k1.out.range _ Try.underlying47 rfl 260 size47 HCL.out.1 ?_); (· rfl))
    | (go_at_call 86; (with_reducible refine CH.out.mono ?_); rintro e w3 ⟨rfl, v3, T3, a3, b3, r3, t3⟩)
    | (go_at_call 74; (with_reducible refine (fork_any _ _ _ _).mono ?_); rintro e w' ⟨rfl, rfl⟩)
    | (go_at_call 66; refine (add_any_ ab B v3 _ T3 (fun n => w3.heap.size ≤ n ∧ n < w3.heap.size + 2) M1 (.fork [i, nx]) _ (a3.out.on (S := fun _ => False) (But.of_below (((Below.refl _ _).alloc (Nat.le_refl _) _).alloc (by simp) _)) (fun _ h => h.elim)) (by have h := pair_fork w3 i nx; first | exact h | (rw [World.size_alloc]; exact h) | simpa using h) (pair_ta a3.out (by simp)) HLN.out).mono ?_; rintro e w5 ⟨rfl, v5, a5, b5, r5⟩))
  go_ret
  refine AutP.of (w0 := w.alloc (.cells C.toArray 47)) ⟨rfl, v5, _, a5, ?_, ?_, fun n hn => ?_⟩ b1.out
  · exact (b3.out.trans (S' := AutS ab v3) ((But.of_below (((Below.refl _ _).alloc (Nat.le_refl _) _).alloc (by simp) _)).trans b5.out (fun _ _ h => h)) (fun n hn hs => by
      rcases hs with rfl | hs
      · exact .inl rfl
      · rcases r3.out with e | e
        · exact .inr (by rw [← e]; exact hs)
        · have := e n hs.symm
          omega))
  · exact r3.out.trans (w1 := w3) (by
      rcases r5.out with e | e
      · exact .inl e
      · exact .inr (fun k hk => Nat.le_trans (by simp; omega) (e k hk))) b3.out.size
  · rcases hn with hn | hn
    · exact t3.out n hn
    · exact .inr (Nat.le_trans b3.out.size hn.1)
end Go.Proofs.Ytilfggnhaehbcaa.Rx
