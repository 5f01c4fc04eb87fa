/- Layer 12: the reference's clipped. -/
import Derived.Test.YtffnopdpndpngaaLiE
import Derived.Test.YtffnopdpndpngaaMLh
import Derived.Deep.RegionLaw
import Derived.Deep.RegionWith
set_option linter.unusedVariables false
set_option linter.unusedSimpArgs false
set_option maxRecDepth 100000
namespace Go.Proofs.Ytffnopdpndpngaa.Lh
open Go.RowKit
theorem ret2_eq {a b c d : Int} (h1 : a = c) (h2 : b = d) : Ending.returned (.tuple #[.int .i64 a, .int .i64 b]) = Ending.returned (.tuple #[.int .i64 c, .int .i64 d]) := by rw [h1, h2]
set_option maxHeartbeats 4000000 in
theorem clip_any (G : H) (hp : 0 ≤ G.p ∧ G.p ≤ 8) (hr : ∀ x ∈ G.bs, 0 ≤ x.1 ∧ x.1 ≤ topI G.p) (hlen : G.bs.length ≤ 140737488355328) (k : Nat) (hk : k < G.bs.length) (A : Option Addr) (q : Nat) (w : World) (hL : LS w w.heap.size A G.bs) :
    Calls Try.prog 55 #[hV G.p G.c G.s G.mn G.mx A G.bs.length q, .int .i64 k] w fun e w' => e = .returned (.tuple #[.int .i64 (lowH G G.bs[k].1), .int .i64 (highH G G.bs[k].1)]) ∧ Below w.heap.size w w' := by
  obtain ⟨p, c, s, mn, mx, l⟩ := G
  dsimp only at hp hr hlen hk hL ⊢
  have D := Lib.hid (bounds_I p l[k].1 hp (hr _ (List.getElem_mem hk)))
  have HE : Hid (lowH ⟨p, c, s, mn, mx, l⟩ l[k].1 = max (loI p l[k].1) mn ∧ highH ⟨p, c, s, mn, mx, l⟩ l[k].1 = min (hiI p l[k].1) mx) := ⟨rfl, rfl⟩
  obtain ⟨bl, off, rfl, hbl, hc1, _⟩ := hL.at_ hk
  obtain ⟨W1, hW1⟩ : ∃ W1, W1 = w.alloc (.cells #[.int .i64 p, .int .i64 c, .int .i64 s, .int .i64 mn, .int .i64 mx, .slice (some ⟨bl, off, none⟩) l.length q] 29) := ⟨_, rfl⟩
  have B0 : Below w.heap.size w W1 := by rw [hW1]; exact (Below.refl _ w).alloc (Nat.le_refl _) _
  have C0 : Hid (HC W1 w.heap.size p c s mn mx (some ⟨bl, off, none⟩) l.length q) := by show HC _ _ _ _ _ _ _ _ _ _; rw [hW1]; exact HC.new w 29 p c s mn mx (some ⟨bl, off, none⟩) l.length q
  have Z0 : W1.heap.size = w.heap.size + 1 := by rw [hW1]; simp
  have c1 := (B0.cell (p := ⟨bl, off + k * 2, none⟩) hbl).trans hc1
  have HB0 := Lib.hid B0
  have HW1 := Lib.hid hW1.symm
  have HZ := Lib.hid Z0
  obtain ⟨m0, m1, m2, m3, m4, m5⟩ := C0.out
  have hlt : (k : Int) < l.length := by omega
  have HB : Hid (Below (w.heap.size + 1) W1 W1) := Below.refl _ _
  clear hL hr hc1 B0 hW1 Z0
  generalize loI p l[k].1 = z at *
  generalize hiI p l[k].1 = z' at *
  generalize l[k].1 = x1 at *
  go_enter Try.func55, Try.ntmps55
  go_wp2_with fail
  rw [HW1.out]
  clear HW1
  go_region_law (go_simp; go_at_call 41; (with_reducible refine (D.out _).mono ?_); rintro e w1 ⟨rfl, hb1⟩; have HB1 := Lib.hid ((bel_drew HB.out).trans (hb1.mono (by have := HZ.out; simp; omega))); clear hb1 m0 m1 m2 m3 m4 m5 c1; obtain ⟨m0, m1, m2, m3, m4, m5⟩ := C0.out.keep (Nat.lt_succ_self _) HB1.out)
  all_goals go_simp
  all_goals go_wp2_with fail
  all_goals go_region
  all_goals go_wp2
  all_goals go_ret2
  all_goals
    have hE := HE.out
    exact ⟨ret2_eq (by omega) (by omega), bel_drew (HB0.out.trans (HB1.out.mono (by omega)))⟩
end Go.Proofs.Ytffnopdpndpngaa.Lh
