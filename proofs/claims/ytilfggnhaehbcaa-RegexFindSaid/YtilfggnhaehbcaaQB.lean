/- Layer 6: atom and factor of the automaton. -/
import Derived.Deep.RegionWith
import Derived.Test.YtilfggnhaehbcaaQA
set_option linter.unusedVariables false
set_option linter.unusedSimpArgs false
namespace Go.Proofs.Ytilfggnhaehbcaa.Rx
open Go.RowKit
theorem RowTo.wk {w w0 : World} {v v' : Value} (h : RowTo w0 v v') (hs : w.heap.size ≤ w0.heap.size) : RowTo w v v' := h.imp id (fun h k hk => Nat.le_trans hs (h k hk))
/-- A state is added, whatever it is. -/
theorem add_any_ (ab B : Nat) (v fv : Value) (T T1 : Nat → Prop) (M : List Nd) (x : Nd) (w : World) (ha : Aut w B ab v T M) (hv : NdV w T1 fv x) (hT1 : ∀ n, T1 n → TA w B ab v n) (hM : M.length ≤ 1000000000) : Calls Try.prog 66 #[.pointer (some ⟨ab, 0, none⟩), fv] w (AddP ab B v (fun n => T n ∨ T1 n) w M.length (M ++ [x])) := by
  cases x with
  | fin => have h := hv; cases h; exact add_func ab B v T T1 M .fin 67 #[] w ha hv hT1 hM
  | hole => have h := hv; cases h; exact add_nil ab B v T T1 M .hole w ha hv hT1 hM
  | read f nx => have h := hv; obtain ⟨b1, b2, rfl, _⟩ := h; exact add_func ab B v T T1 M _ 89 _ w ha hv hT1 hM
  | fork l => have h := hv; obtain ⟨b1, A, cap, rfl, _⟩ := h; exact add_func ab B v T T1 M _ 82 _ w ha hv hT1 hM
/-- What a new block holds may be a state's. -/
theorem fresh_ta {w w1 w2 : World} {B ab : Nat} {v : Value} {T : Nat → Prop} {M : List Nd} (ha : Aut w B ab v T M) (h : w.heap.size ≤ w1.heap.size) : ∀ k, Fresh w1 w2 k → TA w2 B ab v k := fun k hk =>
  ⟨by have := ha.base; have := ha.lt; have := hk.1; omega, hk.2, by have := ha.lt; have := hk.1; omega, fun e => by have := (ha.rowLt k e.symm).2; have := hk.1; omega⟩
/-- The states of a factor's atom. -/
def cT : Pe → List Nd → Nat → Nat × List Nd
  | .byte c _ => cL fun x => x == c
  | .cls f _ => cL f
  | .sub e _ => cE e
def wT : Pe → Nat
  | .byte _ _ => 1
  | .cls _ _ => 1
  | .sub e _ => 1 + wE e
theorem cF_cT (p : Pe) : cF p = cR p.rp (cT p) := by
  cases p with
  | byte c r => rw [cF_byte]; rfl
  | cls f r => rw [cF_cls]; rfl
  | sub e r => rw [cF_subs]; rfl
theorem wF_wT (p : Pe) : wF p = wT p + wR p.rp := by
  cases p with
  | byte c r => rw [wF]; rfl
  | cls f r => rw [wF]; rfl
  | sub e r => rw [wF]; rfl
def Expr65 (x : List (List Pe)) : Prop := ∀ (B ab : Nat) (v : Value) (T : Nat → Prop) (M : List Nd) (nx : Nat) (u : Value) (w : World) (TT : Nat → Prop), Aut w B ab v T M → ExV w TT u x → (∀ n, TT n → n < B) → nx ≤ 1000000000 → M.length + 50000 * (1 + wE x) ≤ 900000000 →
  Calls Try.prog 65 #[.pointer (some ⟨ab, 0, none⟩), u, .int .i64 (nx : Int)] w (AutP ab B v T w (cE x M nx).1 (cE x M nx).2)
def Atom86 (p : Pe) : Prop := ∀ (B ab : Nat) (v : Value) (T : Nat → Prop) (M : List Nd) (nx : Nat) (C : List Value) (w : World) (TT : Nat → Prop), Aut w B ab v T M → PeV w TT C p → (∀ n, TT n → n < B) → nx ≤ 1000000000 → M.length + 50000 * wT p ≤ 900000000 →
  Calls Try.prog 86 #[.pointer (some ⟨ab, 0, none⟩), .agg C.toArray, .int .i64 (nx : Int)] w (AutP ab B v T w (cT p M nx).1 (cT p M nx).2)
def Fac81 (p : Pe) : Prop := ∀ (B ab : Nat) (v : Value) (T : Nat → Prop) (M : List Nd) (nx : Nat) (C : List Value) (w : World) (TT : Nat → Prop), Aut w B ab v T M → PeV w TT C p → (∀ n, TT n → n < B) → nx ≤ 1000000000 → M.length + 50000 * wF p ≤ 900000000 →
  Calls Try.prog 81 #[.pointer (some ⟨ab, 0, none⟩), .agg C.toArray, .int .i64 (nx : Int)] w (AutP ab B v T w (cF p M nx).1 (cF p M nx).2)
theorem AutP.of {ab B : Nat} {v : Value} {T : Nat → Prop} {w w0 w' : World} {i : Nat} {M' : List Nd} {e : Ending} (h : AutP ab B v T w0 i M' e w') (hb : Below w.heap.size w w0) : AutP ab B v T w i M' e w' := by
  obtain ⟨he, v', T', h1, h2, h3, h4⟩ := h
  refine ⟨he, v', T', h1, (But.of_below (S := AutS ab v) hb).trans h2 (fun _ _ h => h), ?_, fun n hn => (h4 n hn).imp id (fun h => Nat.le_trans hb.size h)⟩
  rcases h3 with h | h
  · exact .inl h
  · exact .inr (fun k hk => Nat.le_trans hb.size (h k hk))
set_option maxHeartbeats 4000000 in
set_option maxRecDepth 100000 in
theorem atom_leaf (p : Pe) (f : UInt8 → Bool) (hp : ∀ w TT C, PeV w TT C p → ∃ l r q, C = facL f (.slice none 0 0) l r q) (hc : cT p = cL f) (hw : wT p = 1) : Atom86 p := by
  intro B ab v T M nx C w TT ha hpe hTT hnx hM
  rw [hc]
  rw [hw] at hM
  have HCL := Lib.hid hpe.len
  have HQ : Hid (C[256]? = some (.slice none 0 0)) := by obtain ⟨l, r, q, rfl⟩ := hp _ _ _ hpe; exact (facL_at _ _ _ _ _).1
  obtain ⟨D, hD⟩ : ∃ D, D = clsC f := ⟨_, rfl⟩
  have HD : Hid (∃ tl, C = D ++ tl) := by obtain ⟨l, r, q, rfl⟩ := hp _ _ _ hpe; exact ⟨_, by rw [hD]; rfl⟩
  have HDL : Hid (D.length = 256) := by rw [hD]; exact clsC_len _
  have HA := Lib.hid ha
  have k1 : Hid (Blk (w.alloc (.cells C.toArray 47)) w.heap.size 47 C) := Blk.new w 47 C
  have b1 : Hid (Below w.heap.size w (w.alloc (.cells C.toArray 47))) := (Below.refl _ _).alloc (Nat.le_refl _) _
  have c1 : (w.alloc (.cells C.toArray 47)).cell? ⟨w.heap.size, 256, none⟩ = some (.slice none 0 0) := (k1.out.cell 256).trans HQ.out
  have heq := fun (wx : World) (A : Option Addr) (n c : Nat) => run_neq_slice_nil_any (P := Try.prog) wx 38 _ A n c 0 0 Try.underlying38
  have RG : Hid ((w.alloc (.cells C.toArray 47)).rangeAt w.heap.size 0 D) := by obtain ⟨tl, htl⟩ := HD.out; exact k1.out.part htl
  have HDD := Lib.hid hD
  clear hD ha hpe hTT hp hc hw HD
  go_enter Try.func86, Try.ntmps86
  go_wp2_with (first
    | ((with_reducible refine wpList_load_abs (o := ⟨_, .load 45 (.tmp 16), _, _, _, _⟩) rfl 45 _ rfl w.heap.size 0 ?_ D RG.out _ Try.underlying45 rfl 256 size45 HDL.out ?_); (· rfl))
    | (go_at_call 88; (with_reducible refine (read_any f D HDD.out nx _).mono ?_); rintro e w2 ⟨fv, rfl, n2, b2⟩)
    | (go_at_call 66; (with_reducible refine (add_any_ ab B v fv T (Fresh (w.alloc (.cells C.toArray 47)) w2) M (.read f nx) _ ((HA.out.on (S := fun _ => False) (But.of_below b1.out) (fun _ h => h.elim)).on (S := fun _ => False) (But.of_below b2.out) (fun _ h => h.elim)) n2.out (fresh_ta HA.out (by simp)) (by omega)).mono ?_); rintro e w3 ⟨rfl, v3, a3, b3, r3⟩))
  go_ret
  exact ⟨rfl, v3, _, a3, (But.of_below (S := AutS ab v) (b1.out.trans (b2.out.mono b1.out.size))).trans b3.out (fun _ _ h => h), r3.out.wk (Nat.le_trans b1.out.size b2.out.size), fun n hn => hn.imp id (fun h => by have := h.1; rw [World.size_alloc] at this; omega)⟩
theorem atom_byte_ (c : UInt8) (r : Rp) : Atom86 (.byte c r) := atom_leaf _ (fun x => x == c) (fun w TT C h => by rw [PeV] at h; exact ⟨_, _, _, h⟩) rfl rfl
theorem atom_cls_ (f : UInt8 → Bool) (r : Rp) : Atom86 (.cls f r) := atom_leaf _ f (fun w TT C h => by rw [PeV] at h; exact ⟨_, _, _, h⟩) rfl rfl
set_option maxHeartbeats 4000000 in
set_option maxRecDepth 100000 in
theorem atom_sub_ (x : List (List Pe)) (r : Rp) (H : Expr65 x) : Atom86 (.sub x r) := by
  intro B ab v T M nx C w TT ha hpe hTT hnx hM
  show Calls _ _ _ _ (AutP ab B v T w (cE x M nx).1 (cE x M nx).2)
  have hM : M.length + 50000 * (1 + wE x) ≤ 900000000 := hM
  have HQ := Lib.hid hpe
  rw [PeV] at hpe
  obtain ⟨hx0, b, cap, hC, hTb, hal⟩ := hpe
  have HCL := Lib.hid HQ.out.len
  have c0 : Hid (C[256]? = some (.slice (some ⟨b, 0, none⟩) x.length cap)) := by rw [hC]; exact (facL_at _ _ _ _ _).1
  have k1 : Hid (Blk (w.alloc (.cells C.toArray 47)) w.heap.size 47 C) := Blk.new w 47 C
  have b1 : Hid (Below w.heap.size w (w.alloc (.cells C.toArray 47))) := (Below.refl _ _).alloc (Nat.le_refl _) _
  have c1 : (w.alloc (.cells C.toArray 47)).cell? ⟨w.heap.size, 256, none⟩ = some (.slice (some ⟨b, 0, none⟩) x.length cap) := (k1.out.cell 256).trans c0.out
  have heq := fun (wx : World) (A : Option Addr) (n c : Nat) => run_neq_slice_nil_any (P := Try.prog) wx 38 _ A n c 0 0 Try.underlying38
  have CE : Hid (Calls Try.prog 65 #[.pointer (some ⟨ab, 0, none⟩), .slice (some ⟨b, 0, none⟩) x.length cap, .int .i64 (nx : Int)] (w.alloc (.cells C.toArray 47)) (AutP ab B v T (w.alloc (.cells C.toArray 47)) (cE x M nx).1 (cE x M nx).2)) :=
    H B ab v T M nx _ _ TT (ha.on (S := fun _ => False) (But.of_below b1.out) (fun _ h => h.elim)) ⟨hx0, b, cap, rfl, hTb, AltsV.keep (fun _ h => h) (fun g j hg => b1.out.cell (by have := hTT g hg; have := ha.base; have := ha.lt; show g < _; omega)) (fun j => b1.out.cell (by have := hTT b hTb; have := ha.base; have := ha.lt; show b < _; omega)) hal⟩ hTT hnx hM
  clear hC hTb hal ha hTT hx0 HQ
  go_enter Try.func86, Try.ntmps86
  go_wp2_with (first
    | (go_at_call 65; (with_reducible refine CE.out.mono ?_); rintro e w3 ⟨rfl, v3, T3, a3, b3, r3, t3⟩))
  go_ret
  exact AutP.of ⟨rfl, v3, T3, a3, b3, r3, t3⟩ b1.out
end Go.Proofs.Ytilfggnhaehbcaa.Rx
