/- Layer 11: slices.Compact at samples. -/
import Derived.Test.YtobipbedkkmlcaaTaI
set_option maxRecDepth 100000
set_option linter.unusedVariables false
set_option linter.unusedSimpArgs false
namespace Go.Proofs.Ytobipbedkkmlcaa.Sr
open Go.RowKit
open Go.Sort (grow)
theorem eql_sm (x y : S) (w : World) : (binOp .eql 33 (.agg #[.int .i64 x.1, .int .i64 x.2]) (.agg #[.int .i64 y.1, .int .i64 y.2])).run Try.prog w = .ok (.bool (decide (x = y))) w := by
  rw [eq_smp]
  congr 2
  rw [Bool.eq_iff_iff, decide_eq_true_iff]
  exact eqX_iff
theorem neq_sm (x y : S) (w : World) : (binOp .neq 33 (.agg #[.int .i64 x.1, .int .i64 x.2]) (.agg #[.int .i64 y.1, .int .i64 y.2])).run Try.prog w = .ok (.bool (!decide (x = y))) w := by
  rw [neq_smp]
  congr 3
  rw [Bool.eq_iff_iff, decide_eq_true_iff]
  exact eqX_iff
/-- A row that has been written over is returned. -/
def DelP (gr cap : Nat) (r : List S) (w : World) (e : Ending) (w' : World) : Prop := e = .returned (.slice (some ⟨gr, 0, none⟩) r.length cap) ∧ Hid (RowB w' gr cap r) ∧ Hid (w.grownBy w' (some gr))
/-- Each of those that stand side by side once. -/
def cmpc : List S → List S
  | [] => []
  | [x] => [x]
  | x :: y :: r => if x = y then cmpc (y :: r) else x :: cmpc (y :: r)
theorem mem_cmpc {m : S} : ∀ l : List S, m ∈ cmpc l ↔ m ∈ l
  | [] => Iff.rfl
  | [x] => Iff.rfl
  | x :: y :: r => by
    rw [cmpc]
    split
    · rename_i e
      subst e
      rw [mem_cmpc (x :: r)]
      simp
    · rw [List.mem_cons, mem_cmpc (y :: r), ← List.mem_cons]
theorem cmpc_len : ∀ l : List S, (cmpc l).length ≤ l.length
  | [] => Nat.le_refl _
  | [x] => Nat.le_refl _
  | x :: y :: r => by
    rw [cmpc]
    have := cmpc_len (y :: r)
    split
    · exact Nat.le_trans this (Nat.le_succ _)
    · simp only [List.length_cons] at this ⊢; omega
theorem drop_more {cur l : List S} {j : Nat} (h : cur.drop j = l.drop j) : cur.drop (j + 1) = l.drop (j + 1) := by
  rw [← List.drop_drop (i := 1) (j := j), ← List.drop_drop (i := 1) (j := j), h]
theorem cmpc_snoc : ∀ (a : List S) (y x : S), cmpc ((a ++ [y]) ++ [x]) = if y = x then cmpc (a ++ [y]) else cmpc (a ++ [y]) ++ [x]
  | [], y, x => by
    show cmpc [y, x] = if y = x then cmpc [y] else cmpc [y] ++ [x]
    by_cases h : y = x <;> simp [cmpc, h]
  | [z], y, x => by
    show cmpc [z, y, x] = if y = x then cmpc [z, y] else cmpc [z, y] ++ [x]
    rw [cmpc, cmpc, cmpc]
    by_cases h1 : z = y <;> by_cases h2 : y = x <;> simp [h1, h2, cmpc]
  | z :: z' :: a, y, x => by
    have ih := cmpc_snoc (z' :: a) y x
    show cmpc (z :: z' :: ((a ++ [y]) ++ [x])) = if y = x then cmpc (z :: z' :: (a ++ [y])) else cmpc (z :: z' :: (a ++ [y])) ++ [x]
    have e1 : cmpc (z' :: ((a ++ [y]) ++ [x])) = if y = x then cmpc (z' :: (a ++ [y])) else cmpc (z' :: (a ++ [y])) ++ [x] := ih
    rw [cmpc, cmpc, e1]
    by_cases h1 : z = z' <;> by_cases h2 : y = x <;> simp [h1, h2]
/-- One more element. -/
theorem cmpc_take {l : List S} {m : Nat} (h : m + 1 < l.length) : cmpc (l.take (m + 2)) = if l[m] = l[m + 1] then cmpc (l.take (m + 1)) else cmpc (l.take (m + 1)) ++ [l[m + 1]] := by
  rw [take_snoc h, take_snoc (show m < l.length by omega)]
  exact cmpc_snoc _ _ _
theorem cmpc_one {l : List S} (h : 0 < l.length) : cmpc (l.take 1) = l.take 1 := by
  cases l with
  | nil => simp at h
  | cons x r => rfl
/-- No two of the first k that stand side by side are equal. -/
theorem cmpc_same {l : List S} : ∀ {k : Nat}, 1 ≤ k → k ≤ l.length → (∀ j (hj : j + 1 < l.length), j + 1 < k → l[j] ≠ l[j + 1]) → cmpc (l.take k) = l.take k
  | 0, h, _, _ => by omega
  | 1, _, h, _ => cmpc_one (by omega)
  | m + 2, _, h, hn => by
    rw [cmpc_take (by omega), if_neg (hn m (by omega) (by omega)), cmpc_same (by omega) (by omega) (fun j hj hjk => hn j hj (by omega)), ← take_snoc (by omega)]
/-- Where Compact's inner loop stands. -/
structure CompAt (l : List S) (w : World) (gr cap : Nat) (k kk q : Nat) (cur : List S) (wr : World) : Prop where
  row : RowB wr gr cap cur
  len : cur.length = l.length
  le : kk ≤ k + q
  pre : cur.take kk = cmpc (l.take (k + q + 1))
  suf : cur.drop (k + q) = l.drop (k + q)
  gr : w.grownBy wr (some gr)
theorem CompAt.at_ {l : List S} {w : World} {gr cap k kk q : Nat} {cur : List S} {wr : World} (h : CompAt l w gr cap k kk q cur wr) (i : Nat) (hi : k + q + i < l.length) : ∃ hc : k + q + i < cur.length, cur[k + q + i] = l[k + q + i] := by
  have hc : k + q + i < cur.length := by rw [h.len]; exact hi
  refine ⟨hc, ?_⟩
  have h1 : (cur.drop (k + q))[i]? = (l.drop (k + q))[i]? := by rw [h.suf]
  rw [List.getElem?_drop, List.getElem?_drop, List.getElem?_eq_getElem hc, List.getElem?_eq_getElem hi] at h1
  injection h1
theorem CompAt.drewN {l : List S} {w : World} {gr cap k kk q : Nat} {cur : List S} {wr : World} (h : CompAt l w gr cap k kk q cur wr) (n : Nat) : CompAt l w gr cap k kk q cur (wr.drewN n) :=
  ⟨h.row, h.len, h.le, h.pre, h.suf, ⟨h.gr.os, h.gr.tape, h.gr.output, h.gr.size, h.gr.block⟩⟩
theorem CompAt.skip {l : List S} {w : World} {gr cap k kk q : Nat} {cur : List S} {wr : World} (h : CompAt l w gr cap k kk q cur wr) (hq : k + q + 1 < l.length) (he : l[k + q] = l[k + q + 1]) : CompAt l w gr cap k kk (q + 1) cur wr :=
  ⟨h.row, h.len, by have := h.le; omega, by rw [show k + (q + 1) + 1 = k + q + 2 by omega, cmpc_take hq, if_pos he]; exact h.pre, drop_more h.suf, h.gr⟩
theorem CompAt.put {l : List S} {w : World} {gr cap k kk q : Nat} {cur : List S} {wr : World} (h : CompAt l w gr cap k kk q cur wr) (hq : k + q + 1 < l.length) (he : l[k + q] ≠ l[k + q + 1]) :
    CompAt l w gr cap k (kk + 1) (q + 1) (cur.set kk l[k + q + 1]) ((wr.setCell ⟨gr, kk * 2, none⟩ (.int .i64 l[k + q + 1].1)).setCell ⟨gr, kk * 2 + 1, none⟩ (.int .i64 l[k + q + 1].2)) := by
  have hc : kk < cur.length := by rw [h.len]; have := h.le; omega
  refine ⟨h.row.set hc _, by rw [List.length_set]; exact h.len, by have := h.le; omega, ?_, ?_, (h.gr.trans (set_grown _ _ _)).trans (set_grown _ _ _)⟩
  · rw [show k + (q + 1) + 1 = k + q + 2 by omega, cmpc_take hq, if_neg he, ← h.pre, List.take_add_one, List.take_set_of_le (Nat.le_refl _), List.getElem?_set_self hc]
    rfl
  · rw [show k + (q + 1) = k + q + 1 by omega, List.drop_set_of_lt (by have := h.le; omega)]
    exact drop_more h.suf
set_option maxHeartbeats 8000000 in
theorem compact_any (l : List S) (hl : l.length ≤ 1000000) (gr cap : Nat) (w : World) (hR : RowB w gr cap l) :
    Calls Try.prog 45 #[.slice (some ⟨gr, 0, none⟩) l.length cap] w (DelP gr cap (cmpc l) w) := by
  have HR := Lib.hid hR
  obtain ⟨r, hr⟩ : ∃ r, r = cmpc l := ⟨_, rfl⟩
  rw [← hr]
  have HF := Lib.hid hr
  clear hR hr
  by_cases h2 : l.length < 2
  · have HE : Hid (r = l) := by
      show _ = _
      rw [HF.out]
      match l, h2 with
      | [], _ => rfl
      | [x], _ => rfl
    go_enter Try.func45, Try.ntmps45
    go_wp2
    go_ret
    exact ⟨by rw [HE.out]; rfl, by rw [HE.out]; exact HR, ⟨rfl, rfl, rfl, Nat.le_refl _, fun _ _ _ => rfl⟩⟩
  · have h2' : decide ((l.length : Int) < 2) = false := by simp; omega
    have h2'' : decide (l.length < 2) = false := by simp; omega
    have hl2 : 2 ≤ l.length := by omega
    clear h2
    go_enter Try.func45, Try.ntmps45
    go_wp2
    go_loopw [3] (fun vk wr => ∃ k : Nat, 1 ≤ k ∧ k ≤ l.length ∧ vk = .int .i64 k ∧ Hid (∀ j (hj : j + 1 < l.length), j + 1 < k → l[j] ≠ l[j + 1]) ∧ Hid (∃ n, wr = w.drewN n)) (fun vk _ => l.length - (intOf vk).toNat)
    case atStart => exact ⟨1, by omega, by omega, rfl, fun j hj h => by omega, 0, rfl⟩
    case round =>
      obtain ⟨k, hk1, hkl, rfl, H, hwr⟩ := hrel
      obtain ⟨n, rfl⟩ := hwr.out
      clear hwr
      have HRn : Hid (RowB (w.drewN n) gr cap l) := HR.out
      by_cases hlt : k < l.length
      · obtain ⟨m, hm⟩ : ∃ m, k = m + 1 := ⟨k - 1, by omega⟩
        have hml : m < l.length := by omega
        have hw : IntKind.i64.wrap ((k : Int) - 1) = (m : Int) := by rw [IntWalk.i64_in _ (by omega)]; omega
        have hm0 : (0 : Int) ≤ (m : Int) := by omega
        obtain ⟨c0, c1, _⟩ := HR.out.cell hlt
        obtain ⟨d0, d1, _⟩ := HR.out.cell hml
        have hne := fun w => eql_sm l[k] l[m] w
        by_cases he : l[k] = l[m]
        · have H0 : Hid (CompAt l w gr cap k k 0 l (w.drewN n)) := by
            refine ⟨HR.out, rfl, Nat.le_refl _, ?_, rfl, ⟨rfl, rfl, rfl, Nat.le_refl _, fun _ _ _ => rfl⟩⟩
            subst hm
            rw [Nat.add_zero, cmpc_take hlt, if_pos he.symm, cmpc_same hk1 hkl H.out]
          simp only [decide_eq_true he] at hne
          have hcap : l.length ≤ cap := by
            obtain ⟨_, _, _, _, h, _⟩ := HR.out
            exact h
          have hcap2 : cap ≤ 9223372036854775807 := by
            obtain ⟨_, _, _, h, _⟩ := HR.out
            unfold maxLen at h
            exact h
          clear he H hm
          generalize l[k] = xa at *
          generalize l[m] = xb at *
          go_wp2_with fail
          go_quiet (fail)
          have H1 := Lib.hid (H0.out.drewN nq)
          clear H0 hne c0 c1 d0 d1 hw hm0 HRn
          generalize (w.drewN n).drewN nq = w5 at *
          go_wp2_with fail
          go_loopw [3, 5] (fun vk vq wr => ∃ (kk q t : Nat) (cur : List S), k + q < l.length ∧ t = q + 1 ∧ vk = .int .i64 kk ∧ vq = .int .i64 (t : Int) ∧ Hid (CompAt l w gr cap k kk q cur wr)) (fun _ vq _ => l.length - (intOf vq).toNat)
          case atStart => exact ⟨k, 0, 1, l, by omega, rfl, rfl, rfl, H1⟩
          case round =>
            clear H1
            obtain ⟨kk, q, t, cur, hkq, ht, rfl, rfl, H⟩ := hrel
            by_cases hlt2 : t < l.length - k
            · have hq1 : k + q + 1 < l.length := by omega
              obtain ⟨hc1, hcc1⟩ := H.out.at_ 1 hq1
              obtain ⟨hc0, hcc0⟩ := H.out.at_ 0 (by omega)
              obtain ⟨c0, c1, _⟩ := H.out.row.cell hc1
              obtain ⟨d0, d1, _⟩ := H.out.row.cell hc0
              rw [hcc1] at c0 c1
              rw [hcc0] at d0 d1
              rw [show (k + q + 1) * 2 = k * 2 + t * 2 by omega] at c0 c1
              rw [show (k + q + 0) * 2 = k * 2 + q * 2 by omega] at d0 d1
              obtain ⟨xa, hxa⟩ : ∃ xa, xa = l[k + q + 1] := ⟨_, rfl⟩
              obtain ⟨xb, hxb⟩ : ∃ xb, xb = l[k + q] := ⟨_, rfl⟩
              have hxb' : l[k + q + 0] = xb := hxb.symm
              rw [← hxa] at c0 c1
              rw [hxb'] at d0 d1
              have HXA := Lib.hid hxa
              have HXB := Lib.hid hxb
              have hne := fun w => neq_sm xa xb w
              have hw : IntKind.i64.wrap ((t : Int) - 1) = (q : Int) := by rw [IntWalk.i64_in _ (by omega)]; omega
              have hq0 : (0 : Int) ≤ (q : Int) := by omega
              have hkl3 : q < l.length - k := by omega
              have ht0 : Hid (t = q + 1) := ht
              clear hcc1 hcc0 hxa hxb hxb' ht
              by_cases he : xa = xb
              · have HS : Hid (CompAt l w gr cap k kk (q + 1) cur wr) := H.out.skip hq1 (by rw [← HXA.out, ← HXB.out, he])
                simp only [decide_eq_true he] at hne
                clear he HXA HXB H
                go_wp2_with fail
                go_quiet (fail)
                have HS2 := Lib.hid (HS.out.drewN nq)
                go_wp2_with fail
                go_roundw
                case rel => exact ⟨kk, q + 1, t + 1, cur, by omega, by have := ht0.out; omega, rfl, by go_num, HS2⟩
                case measure => simp [intOf]; omega
              · have hkk : kk < cur.length := by rw [H.out.len]; have := H.out.le; omega
                have hkl4 : kk < l.length := by rw [← H.out.len]; exact hkk
                have HN := Lib.hid he
                simp only [decide_eq_false he] at hne
                clear he
                go_wp2_with fail
                go_quiet (fail)
                have H2 := Lib.hid (H.out.drewN nq)
                have c0' : (wr.drewN nq).cell? ⟨gr, k * 2 + t * 2, none⟩ = some (.int .i64 xa.1) := c0
                have c1' : (wr.drewN nq).cell? ⟨gr, k * 2 + t * 2 + 1, none⟩ = some (.int .i64 xa.2) := c1
                clear c0 c1 d0 d1 H hne
                generalize wr.drewN nq = V at *
                obtain ⟨q0, q1, f0, f1⟩ := H2.out.row.cell hkk
                have HS : Hid (CompAt l w gr cap k (kk + 1) (q + 1) (cur.set kk xa) ((V.setCell ⟨gr, kk * 2, none⟩ (.int .i64 xa.1)).setCell ⟨gr, kk * 2 + 1, none⟩ (.int .i64 xa.2))) := by
                  have h := H2.out.put hq1 (by rw [← HXA.out, ← HXB.out]; exact fun e => HN.out e.symm)
                  rw [← HXA.out] at h
                  exact h
                clear HXA HXB H2 HN
                go_wp2_with fail
                go_roundw
                case rel => exact ⟨kk + 1, q + 1, t + 1, cur.set kk xa, by omega, by have := ht0.out; omega, by go_num, by go_num, HS⟩
                case measure => simp [intOf]; omega
            · have hkk : kk < cur.length := by rw [H.out.len]; have := H.out.le; omega
              have hkl4 : kk < l.length := by rw [← H.out.len]; exact hkk
              have HF2 : Hid (r = cur.take kk) := by
                show _ = _
                rw [HF.out, H.out.pre, List.take_of_length_le (by omega)]
              have hcl : ∀ ty, (Builtin.clear_ #[22] ty #[.slice (some ⟨gr, kk * 2, none⟩) (l.length - kk) (cap - kk)]).run Try.prog wr = .ok (.tuple #[]) (wr.setCells gr (kk * 2) (zer (l.length - kk))) := fun ty => by
                have h := run_clearS H.out.row hkk (cap - kk) ty
                rwa [H.out.len] at h
              have HRF : Hid (RowB (wr.setCells gr (kk * 2) (zer (l.length - kk))) gr cap (cur.take kk)) := RowB.clear _ _ _ (by have := List.length_take_le kk cur; omega) (H.out.row.take kk)
              have HGF : Hid (w.grownBy (wr.setCells gr (kk * 2) (zer (l.length - kk))) (some gr)) := H.out.gr.trans (sets_grown _ _ _ _)
              have HLN : Hid ((cur.take kk).length = kk) := by
                show _ = _
                rw [List.length_take]
                omega
              clear H hkk
              go_wp2_with fail
              go_ret
              exact ⟨by rw [HF2.out, HLN.out]; rfl, by rw [HF2.out]; exact HRF, HGF⟩
        · have HE : Hid (∀ j (hj : j + 1 < l.length), j + 1 < k + 1 → l[j] ≠ l[j + 1]) := fun j hj h => by
            rcases Nat.lt_or_ge (j + 1) k with h3 | h3
            · exact H.out j hj h3
            · obtain rfl : j = m := by omega
              subst hm
              exact fun e => he e.symm
          simp only [decide_eq_false he] at hne
          clear he H hm
          go_wp2_with fail
          go_quiet (fail)
          go_wp2_with fail
          go_roundw
          case rel => exact ⟨k + 1, by omega, by omega, by go_num, HE, _, rfl⟩
          case measure => simp [intOf]; omega
      · obtain rfl : k = l.length := by omega
        have HE : Hid (r = l) := by
          show _ = _
          have h := cmpc_same (l := l) (k := l.length) (by omega) (Nat.le_refl _) H.out
          rw [List.take_length] at h
          rw [HF.out, h]
        clear H
        go_wp2
        go_ret
        exact ⟨by rw [HE.out]; rfl, by rw [HE.out]; exact HRn, ⟨rfl, rfl, rfl, Nat.le_refl _, fun _ _ _ => rfl⟩⟩
end Go.Proofs.Ytobipbedkkmlcaa.Sr
