/- Layer 12: joined with one value some times is Add's. -/
import Derived.Test.YtffnopdpndpngaaMp
set_option linter.unusedVariables false
set_option linter.unusedSimpArgs false
namespace Go.Proofs.Ytffnopdpndpngaa.Lh
/-- One value, n times. -/
def oneH (p v n : Int) : H := ⟨p, n, n * v, v, v, [(ixI p v, n)]⟩
theorem V_const_rep (F : Int → Int) (v : Int) : ∀ n : Nat, V F (List.replicate n v) = n * F v
  | 0 => by simp [V]
  | n + 1 => by
    rw [List.replicate_succ]
    simp only [V, V_const_rep F v n]
    have : ((n + 1 : Nat) : Int) * F v = (n : Int) * F v + F v := by rw [Int.natCast_add, Int.add_mul]; simp
    omega
theorem oneH_ok {p v n : Int} (hp : 0 ≤ p ∧ p ≤ 8) (hv : 0 ≤ v ∧ v ≤ 1099511627776) (hn : 1 ≤ n) (h2 : n ≤ 1048576) : Ok (oneH p v n) := by
  obtain ⟨m, rfl⟩ : ∃ m : Nat, n = m := ⟨n.toNat, by omega⟩
  have hne : List.replicate m v ≠ [] := by
    intro e
    have := congrArg List.length e
    simp at this
    omega
  have hmem : ∀ x ∈ List.replicate m v, x = v := fun x hx => (List.mem_replicate.1 hx).2
  have o : Of p (List.replicate m v) (oneH p v m) := by
    refine ⟨rfl, ?_, ?_, ?_, ?_, fun j => ?_, fun e => (hne e).elim, fun _ => ⟨?_, fun x hx => ?_⟩, fun _ => ⟨?_, fun x hx => ?_⟩⟩
    · show (m : Int) = _
      rw [List.length_replicate]
    · show (m : Int) * v = _
      rw [V_const_rep]
    · exact List.pairwise_singleton _ _
    · intro b hb
      rw [List.mem_singleton.1 hb]
      exact hn
    · rw [List.map_replicate, V_const_rep]
      show W (one j) [(ixI p v, (m : Int))] = _
      simp only [W, Int.add_zero]
    · exact List.mem_replicate.2 ⟨by omega, rfl⟩
    · rw [hmem x hx]; exact Int.le_refl _
    · exact List.mem_replicate.2 ⟨by omega, rfl⟩
    · rw [hmem x hx]; exact Int.le_refl _
  exact o.ok hp.1 hp.2 (fun x hx => by rw [hmem x hx]; exact hv) (by rw [List.length_replicate]; omega) (by show 1 ≤ 500; omega)
theorem lo_key {p : Int} {i : Int} (h0 : 0 ≤ i) : ixI p (loI p i) = i := by
  unfold ixI loI
  rw [Int.toNat_natCast, ix_lo]
  omega
theorem join_add {h : H} (o : Ok h) {v n : Int} (hv : 0 ≤ v ∧ v ≤ 1099511627776) (hn : 1 ≤ n) (h2 : n ≤ 1048576) : limH (joinH h (oneH h.p v n)) = limH (addH h v n) := by
  have ok := oneH_ok (p := h.p) ⟨o.p0, o.p8⟩ hv hn h2
  have e : joinH h (oneH h.p v n) = addH h v n := by
    have hp : min h.p h.p = h.p := by omega
    have hm := o.mx0
    refine H.ext2 hp rfl rfl ?_ ?_ ?_
    · show lstO h (oneH h.p v n) = min (if h.c = 0 then v else h.mn) v
      unfold lstO
      by_cases hc : h.c = 0
      · rw [if_pos hc, if_pos hc]
        show v = min v v
        omega
      · rw [if_neg hc, if_neg hc, if_neg (show ¬ (oneH h.p v n).c = 0 from by show ¬ n = 0; omega)]
        rfl
    · show max h.mx v = max (if h.c = 0 then v else h.mx) v
      by_cases hc : h.c = 0
      · rw [if_pos hc, (o.c0 hc).2.2.2]
        omega
      · rw [if_neg hc]
    · show jb h (oneH h.p v n) = put (ixI h.p v) n h.bs
      have e1 := red_bs o o.p0 (Int.le_refl h.p) []
      have e3 : puts (fun j => ixI h.p (loI h.p j)) [] h.bs = h.bs := by
        rw [puts_congr (g := fun j => j) (fun b hb => lo_key (o.rng b hb).1)]
        exact puts_nil_id o.asc o.pos
      show puts (fun j => ixI (min h.p h.p) (max (loI h.p j) v)) (puts (fun j => ixI (min h.p h.p) (max (loI h.p j) h.mn)) [] h.bs) [(ixI h.p v, n)] = _
      rw [hp, e1, e3]
      show put (ixI h.p (max (loI h.p (ixI h.p v)) v)) n h.bs = _
      have := (ixI_in (p := h.p) hv).1
      rw [show max (loI h.p (ixI h.p v)) v = v by omega]
  rw [e]
end Go.Proofs.Ytffnopdpndpngaa.Lh
