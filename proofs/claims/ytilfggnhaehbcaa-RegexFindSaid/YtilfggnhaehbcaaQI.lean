/- Layer 6: compile of the program. -/
import Derived.Test.YtilfggnhaehbcaaQH
set_option linter.unusedVariables false
set_option linter.unusedSimpArgs false
namespace Go.Proofs.Ytilfggnhaehbcaa.Rx
open Go.RowKit
/-- A program in memory: its states lie in T. -/
def PgV (w : World) (T : Nat → Prop) (v : Value) (M : List Nd) : Prop := ∃ g cap, v = .slice (some ⟨g, 0, none⟩) M.length cap ∧ T g ∧ ∀ j (h : j < M.length), ∃ u, w.cell? ⟨g, j, none⟩ = some u ∧ NdV w T u M[j]
theorem PgV.keep {w w' : World} {T T' : Nat → Prop} {v : Value} {M : List Nd} (h : PgV w T v M) (hT : ∀ k, T k → T' k) (hk : ∀ b j, T b → w'.cell? ⟨b, j, none⟩ = w.cell? ⟨b, j, none⟩) : PgV w' T' v M := by
  obtain ⟨g, cap, h1, h2, h3⟩ := h
  refine ⟨g, cap, h1, hT g h2, fun j hj => ?_⟩
  obtain ⟨u, h4, h5⟩ := h3 j hj
  exact ⟨u, (hk g j h2).trans h4, h5.keep hT hk⟩
theorem Aut.pg {w : World} {B ab : Nat} {v : Value} {T : Nat → Prop} {M : List Nd} (h : Aut w B ab v T M) (h0 : 0 < M.length) : PgV w (fun n => T n ∨ some n = v.ownBlock) v M := by
  obtain ⟨xs, hr, hn⟩ := h.row
  obtain ⟨g, cap, cur, rfl, h1, h2, h3, h4⟩ := h.form h0
  refine ⟨g, cap, rfl, .inr rfl, fun j hj => ?_⟩
  obtain ⟨u, hu, hv⟩ := hn.2 j hj
  have hc := World.ownsRow.cells (g := g) hr rfl j u hu
  rw [Addr.add_mid, Nat.zero_add] at hc
  exact ⟨u, hc, hv.keep (fun _ h => .inl h) (fun _ _ _ => rfl)⟩
set_option maxHeartbeats 4000000 in
set_option maxRecDepth 100000 in
theorem compile_any (x : List (List Pe)) (h : wE x ≤ 200) (u : Value) (w : World) (TT : Nat → Prop) (hu : ExV w TT u x) (hTT : ∀ n, TT n → n < w.heap.size) :
    Calls Try.prog 56 #[u] w fun e w' => ∃ v, e = .returned (.agg #[v, .int .i64 ((ps x : Nat) : Int)]) ∧ Hid (PgV w' (Fresh w w') v (pm x)) ∧ Hid (Below w.heap.size w w') := by
  obtain ⟨W0, hW0⟩ : ∃ W0, W0 = (w.alloc (.cells #[.slice none 0 0, .int .i64 0] 71)).alloc (.cells #[.slice none 0 0, .int .i64 0] 71) := ⟨_, rfl⟩
  have hsz : W0.heap.size = w.heap.size + 2 := by rw [hW0]; simp
  have hB0 : Below w.heap.size w W0 := by rw [hW0]; exact ((Below.refl _ w).alloc (Nat.le_refl _) _).alloc (by simp) _
  have k0 : Blk W0 w.heap.size 71 [.slice none 0 0, .int .i64 0] := by rw [hW0]; exact (Blk.new w 71 [.slice none 0 0, .int .i64 0]).alloc _
  have k1 : Blk W0 (w.heap.size + 1) 71 [.slice none 0 0, .int .i64 0] := by
    have h := Blk.new (w.alloc (.cells #[.slice none 0 0, .int .i64 0] 71)) 71 [.slice none 0 0, .int .i64 0]
    rw [World.size_alloc] at h
    rw [hW0]
    exact h
  have A0 : Aut W0 (w.heap.size + 1) (w.heap.size + 1) (.slice none 0 0) (fun _ => False) [] := ⟨⟨0, k1⟩, Nat.le_refl _, ⟨[], World.ownsRow_nil _ _ _ _, NdsL.nil _ _⟩, fun _ h => h.elim⟩
  have CA := Lib.hid (add_any_ (w.heap.size + 1) (w.heap.size + 1) (.slice none 0 0) (.func (.func 67) #[] #[]) (fun _ => False) (fun _ => False) [] .fin W0 A0 rfl (fun _ h => h.elim) (by simp))
  have CE : Hid (∀ w1 v1 T1, Aut w1 (w.heap.size + 1) (w.heap.size + 1) v1 T1 [Nd.fin] → But (AutS (w.heap.size + 1) (.slice none 0 0)) W0 w1 → Calls Try.prog 65 #[.pointer (some ⟨w.heap.size + 1, 0, none⟩), u, .int .i64 0] w1 (AutP (w.heap.size + 1) (w.heap.size + 1) v1 T1 w1 (ps x) (pm x))) := fun w1 v1 T1 a1 b1 =>
    expr_all x h (w.heap.size + 1) (w.heap.size + 1) v1 T1 [Nd.fin] 0 u w1 TT a1 (hu.keep (fun _ h => h) (fun g j hg => by
      have hlt := hTT g hg
      exact (b1.cell (p := ⟨g, j, none⟩) (by show g < _; omega) (fun hs => by
        rcases hs with hs | hs
        · have hs : g = w.heap.size + 1 := hs
          omega
        · cases hs)).trans (hB0.cell (p := ⟨g, j, none⟩) hlt))) (fun n hn => by have := hTT n hn; omega) (by omega) (by simp; omega)
  have HPL := Lib.hid (pm_len x)
  have K0 := Lib.hid k0
  have HB0 := Lib.hid hB0
  clear hu hTT k0 k1 A0 hB0
  go_enter Try.func56, Try.ntmps56
  go_wp2_with (first
    | (go_at_call 66; rw [← hW0]; (with_reducible refine CA.out.mono ?_); rintro e w1 ⟨rfl, v1, a1, b1, r1⟩)
    | (go_at_call 65; (with_reducible refine (CE.out w1 v1 _ a1.out b1.out).mono ?_); rintro e w2 ⟨rfl, v2, T2, a2, b2, r2, t2⟩; obtain ⟨xs2, hr2, hn2⟩ := a2.out.row; obtain ⟨A2, cp2, rfl⟩ := own_form hr2; clear hr2 hn2; obtain ⟨n2, hb2⟩ := a2.out.blk; have c0 : w2.cell? ⟨w.heap.size + 1, 0, none⟩ = some (.slice A2 (pm x).length cp2) := hb2.cell 0; have c1 : w2.cell? ⟨w.heap.size + 1, 1, none⟩ = some (.int .i64 n2) := hb2.cell 1; have f1 := hb2.froz 1; have K2 : Hid (Blk w2 w.heap.size 71 [.slice none 0 0, .int .i64 0]) := (K0.out.but b1.out (fun hs => by rcases hs with hs | hs; (have hs : w.heap.size = w.heap.size + 1 := hs; omega); (cases hs))).but b2.out (fun hs => by rcases hs with hs | hs; (have hs : w.heap.size = w.heap.size + 1 := hs; omega); (have := (a1.out.rowLt _ hs.symm).1; omega)); have d0 : w2.cell? ⟨w.heap.size, 0, none⟩ = some (.slice none 0 0) := K2.out.cell 0; have d1 : w2.cell? ⟨w.heap.size, 1, none⟩ = some (.int .i64 0) := K2.out.cell 1; have g0 := K2.out.froz 0; have g1 := K2.out.froz 1; have H2 := Lib.hid hb2; clear hb2))
  have KF : Hid (Blk (((w2.setCell ⟨w.heap.size + 1, 1, none⟩ (.int .i64 ((ps x : Nat) : Int))).setCell ⟨w.heap.size, 0, none⟩ (.slice A2 (pm x).length cp2)).setCell ⟨w.heap.size, 1, none⟩ (.int .i64 ((ps x : Nat) : Int))) w.heap.size 71 [.slice A2 (pm x).length cp2, .int .i64 ((ps x : Nat) : Int)]) := ((K2.out.setOther (p := ⟨w.heap.size + 1, 1, none⟩) (by show _ + 1 ≠ _; omega) _).set 0 _).set 1 _
  have BF : Hid (But (fun n => n = w.heap.size ∨ n = w.heap.size + 1) w2 (((w2.setCell ⟨w.heap.size + 1, 1, none⟩ (.int .i64 ((ps x : Nat) : Int))).setCell ⟨w.heap.size, 0, none⟩ (.slice A2 (pm x).length cp2)).setCell ⟨w.heap.size, 1, none⟩ (.int .i64 ((ps x : Nat) : Int)))) := ((But.setCell (But.refl _ _) (p := ⟨w.heap.size + 1, 1, none⟩) (fun _ => .inr rfl) _).setCell (p := ⟨w.heap.size, 0, none⟩) (fun _ => .inl rfl) _).setCell (p := ⟨w.heap.size, 1, none⟩) (fun _ => .inl rfl) _
  have BA : Hid (Below w.heap.size w w2) := (HB0.out.trans ((b1.out.below (by omega) (fun n hs => by rcases hs with hs | hs; (have hs : n = w.heap.size + 1 := hs; omega); (cases hs))))).trans (b2.out.below (by have := b1.out.size; omega) (fun n hs => by rcases hs with hs | hs; (have hs : n = w.heap.size + 1 := hs; omega); (have := (a1.out.rowLt _ hs.symm).1; omega)))
  have TS : Hid (∀ n, (T2 n ∨ some n = (Value.slice A2 (pm x).length cp2).ownBlock) → w.heap.size + 2 ≤ n ∧ n < w2.heap.size) := fun n hn => by
    rcases hn with hn | hn
    · have h1 := a2.out.sub n hn
      rcases t2.out n hn with h2 | h2
      · rcases h2 with h2 | h2 <;> exact h2.elim
      · exact ⟨by have := b1.out.size; omega, h1.2.1⟩
    · have h1 := a2.out.rowLt n hn.symm
      refine ⟨?_, h1.2⟩
      have hne : n ≠ w.heap.size + 1 := fun e => a2.out.ne (by rw [← e]; exact hn)
      omega
  have PG := Lib.hid (a2.out.pg (by rw [HPL.out]; omega))
  clear a2 b2 r2 t2 a1 b1 r1 CA CE hW0 c0 c1 f1 d0 d1 g0 g1
  generalize (((w2.setCell ⟨w.heap.size + 1, 1, none⟩ (.int .i64 ((ps x : Nat) : Int))).setCell ⟨w.heap.size, 0, none⟩ (.slice A2 (pm x).length cp2)).setCell ⟨w.heap.size, 1, none⟩ (.int .i64 ((ps x : Nat) : Int))) = w3 at *
  refine bodyPost_ret (results_cell_row rfl _ _ w.heap.size 71 #[.slice A2 (pm x).length cp2, .int .i64 ((ps x : Nat) : Int)] (0, 0) _ rfl (show w3.heap[w.heap.size]? = some (.cells #[.slice A2 (pm x).length cp2, .int .i64 ((ps x : Nat) : Int)] 71 (0, 0)) from KF.out) Try.underlying71 rfl (by kernel_rfl)) rfl ?_
  refine ⟨_, rfl, PG.out.keep (fun n hn => ⟨by have := (TS.out n hn).1; omega, Nat.lt_of_lt_of_le (TS.out n hn).2 BF.out.size⟩) (fun g j hg => BF.out.cell (p := ⟨g, j, none⟩) (TS.out g hg).2 (fun hs => by have := (TS.out g hg).1; have hs : g = w.heap.size ∨ g = w.heap.size + 1 := hs; omega)), BA.out.trans (BF.out.below (by have := BA.out.size; omega) (fun n hn => by omega))⟩

end Go.Proofs.Ytilfggnhaehbcaa.Rx
