/- Layer 8: what the range over the iterator needs: its maker, its contract, who chooses. -/
import Derived.Test.YtejnmjaclhmelaaSD
set_option linter.unusedVariables false
set_option linter.unusedSimpArgs false
namespace Go.Proofs.Ytejnmjaclhmelaa.Po
open Go.RowKit Go.Shelf

attribute [local go_sem] Oper.semAt_some

theorem side_in (dp : Nat) (a1 a2 : Option Addr) (n1 n2 c1 c2 : Nat) (w : World) :
    CallsIn Fence.wide dp Try.prog 62 #[.slice a1 n1 c1, .slice a2 n2 c2] w fun e w' => e = .returned (.func (.func 67) #[] #[.pointer (some ⟨w.heap.size, 0, none⟩), .pointer (some ⟨w.heap.size + 1, 0, none⟩)]) ∧ w' = (w.alloc (.cells #[.slice a1 n1 c1] 22)).alloc (.cells #[.slice a2 n2 c2] 22) := by
  refine callsIn_of_wp Try.func62 rfl trivial ?_ rfl
  simp only [Try.ntmps62, List.size_toArray, List.length_cons, List.length_nil, Nat.reduceAdd, Nat.reduceSub, Array.replicate_succ, Array.replicate_zero, List.push_toArray, List.append_toArray, List.nil_append, List.cons_append]
  gi_wp2
  go_ret
  exact ⟨rfl, rfl⟩
theorem sides_stops (dp : Nat) (hn : 1 ≤ dp) (n0 bx bz : Nat) (a1 a2 : Option Addr) (c1 c2 : Nat) (xs ys : List Int) (w : World) (hn0 : n0 ≤ w.heap.size) (hx : IntsR n0 w a1 c1 xs) (hy : IntsR n0 w a2 c2 ys) (vx : Val xs) (vy : Val ys)
    (hbx : w.cell? ⟨bx, 0, none⟩ = some (.slice a1 xs.length c1)) (hbz : w.cell? ⟨bz, 0, none⟩ = some (.slice a2 ys.length c2)) (lx : bx < w.heap.size) (lz : bz < w.heap.size) :
    SeqStopsK Fence.wide dp Try.prog 67 #[.pointer (some ⟨bx, 0, none⟩), .pointer (some ⟨bz, 0, none⟩)] encS (Below n0) (fun zs => zs = sideL xs ys) (fun _ => True) (sideL xs ys).length w := fun l J Jx W hW hJ hJx hY hj =>
  sides1_in dp hn l n0 W.heap.size bx bz a1 a2 c1 c2 xs ys J Jx hJ hY W ((hW.cell (p := ⟨bx, 0, none⟩) lx).trans hbx) ((hW.cell (p := ⟨bz, 0, none⟩) lz).trans hbz)
    ⟨hx.below (hW.mono hn0), hy.below (hW.mono hn0), vx, vy, Nat.le_refl _, rfl, hj, Nat.le_trans hn0 hW.size⟩
theorem keeps_below {W W' : World} (h : Below W.heap.size W W') : KeepsOthers W W' := ⟨h.size, fun k o hk _ => (h.block k (Array.getElem?_eq_some_iff.1 hk).1).trans hk⟩
theorem boxed_below {W W' : World} {b : Nat} {t : TypeId} {v : Value} (h : Boxed W b t v) (hb : Below W.heap.size W W') : Boxed W' b t v := (hb.block b h.lt).trans h
theorem cells2' {W : World} {b : Nat} {u v : Value} {t : TypeId} (h : W.heap[b]? = some (.cells #[u, v] t (0, 0))) : W.cell? ⟨b, 0, none⟩ = some u ∧ W.cell? ⟨b, 1, none⟩ = some v := by simp [World.cell?, h]
theorem row_own {β : Type} (b : Nat) (t : TypeId) (f : β → Array Value) : Own (fun s W => W.heap[b]? = some (.cells (f s) t (0, 0))) := fun s X Y row hs hg hrow =>
  (hg.block b (Array.getElem?_eq_some_iff.1 hs).1 (fun e' => by obtain ⟨o, ho, hc⟩ := hrow b e'.symm; rw [hs] at ho; cases ho; cases hc)).trans hs
/-- A box of another type, over an append and the store of its result. -/
theorem box_appended {rb b base size k : Nat} {W w1 : World} {t e : TypeId} {v v' u : Value} {xs : List Value} {tmp : Obj} (h : Boxed W b t u) (hte : t ≠ e)
    (hr : W.ownsRow base e size v k xs) (hgrow : (W.alloc tmp).grownBy w1 v.ownBlock) (hb : b ≠ rb) : Boxed (w1.setCell ⟨rb, 0, none⟩ v') b t u :=
  ((h.alloc tmp).kept hgrow (h.not_row hte hr)).other hb _
set_option maxHeartbeats 1000000 in
theorem and1_any (p q : Bool) (w : World) : Calls Try.prog 39 #[.agg #[.bool p, .bool q]] w fun e w' => e = .returned (.bool (fAnd p q)) ∧ Below w.heap.size w w' := by
  have B1 : Hid (Below w.heap.size w (w.alloc (.cells #[.bool p, .bool q] 49))) := (Below.refl _ _).alloc (Nat.le_refl _) _
  cases p <;> cases q <;> (
    go_enter Try.func39, Try.ntmps39
    go_wp2
    go_ret
    exact ⟨rfl, B1.out⟩)
set_option maxHeartbeats 1000000 in
theorem wi1_any (p q : Bool) (w : World) : Calls Try.prog 41 #[.agg #[.bool p, .bool q]] w fun e w' => e = .returned (.bool (fWi p q)) ∧ Below w.heap.size w w' := by
  have B1 : Hid (Below w.heap.size w (w.alloc (.cells #[.bool p, .bool q] 49))) := (Below.refl _ _).alloc (Nat.le_refl _) _
  cases p <;> cases q <;> (
    go_enter Try.func41, Try.ntmps41
    go_wp2
    go_ret
    exact ⟨rfl, B1.out⟩)
theorem all1_any (p q : Bool) (w : World) : Calls Try.prog 57 #[.agg #[.bool p, .bool q]] w fun e w' => e = .returned (.bool (fAll p q)) ∧ Below w.heap.size w w' := by
  have B1 : Hid (Below w.heap.size w (w.alloc (.cells #[.bool p, .bool q] 49))) := (Below.refl _ _).alloc (Nat.le_refl _) _
  go_enter Try.func57, Try.ntmps57
  go_wp2
  go_ret
  exact ⟨rfl, B1.out⟩
end Go.Proofs.Ytejnmjaclhmelaa.Po
