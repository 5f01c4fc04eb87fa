/- Layer 11: the library's Contains at samples, where the sample is there. -/
import Derived.Test.YtobipbedkkmlcaaLc
import Derived.Test.YtobipbedkkmlcaaTaJ
set_option maxRecDepth 100000
set_option linter.unusedVariables false
set_option linter.unusedSimpArgs false
namespace Go.Proofs.Ytobipbedkkmlcaa.Sr
open Go.RowKit
set_option maxHeartbeats 2000000 in
theorem index_any (l : List S) (hl : l.length ≤ 100000) (A : Option Addr) (c : Nat) (x : S) (hx : x ∈ l) (w : World) (hA : LS w w.heap.size A l) :
    Calls Try.prog 46 #[.slice A l.length c, .agg #[.int .i64 x.1, .int .i64 x.2]] w fun e w' => (∃ k : Nat, e = .returned (.int .i64 k)) ∧ Below w.heap.size w w' := by
  have HA := Lib.hid hA
  have HX := Lib.hid hx
  have HB : Hid (∀ n, Below w.heap.size w ((w.alloc (.cells #[.int .i64 x.1, .int .i64 x.2] 33)).drewN n)) := Lib.hid fun n => below_drewN ((Below.refl _ _).alloc (Nat.le_refl _) _) n
  have hx0 : (w.alloc (.cells #[.int .i64 x.1, .int .i64 x.2] 33)).cell? ⟨w.heap.size, 0, none⟩ = some (.int .i64 x.1) := by go_simp
  have hx1 : (w.alloc (.cells #[.int .i64 x.1, .int .i64 x.2] 33)).cell? ⟨w.heap.size, 1, none⟩ = some (.int .i64 x.2) := by go_simp
  have HX0 := Lib.hid hx0
  have HX1 := Lib.hid hx1
  have hsz : w.heap.size < (w.alloc (.cells #[.int .i64 x.1, .int .i64 x.2] 33)).heap.size := by simp
  have HSZ := Lib.hid hsz
  have HLA : Hid (∀ k (h : k < l.length), ∃ b off, A = some ⟨b, off, none⟩ ∧ b < (w.alloc (.cells #[.int .i64 x.1, .int .i64 x.2] 33)).heap.size ∧ (w.alloc (.cells #[.int .i64 x.1, .int .i64 x.2] 33)).cell? ⟨b, off + k * 2, none⟩ = some (.int .i64 l[k].1) ∧ (w.alloc (.cells #[.int .i64 x.1, .int .i64 x.2] 33)).cell? ⟨b, off + k * 2 + 1, none⟩ = some (.int .i64 l[k].2)) := Lib.hid fun k h => (hA.up ((Below.refl _ _).alloc (Nat.le_refl _) _)).at_ h
  clear hA hx hx0 hx1 hsz
  go_enter Try.func46, Try.ntmps46
  go_wp2
  generalize w.alloc (.cells #[.int .i64 x.1, .int .i64 x.2] 33) = V at *
  go_loopw [8] (fun vi wr => ∃ k : Nat, k ≤ l.length ∧ vi = .int .i64 k ∧ Hid (x ∉ l.take k) ∧ Hid (∃ n, wr = V.drewN n)) (fun vi _ => l.length - (intOf vi).toNat)
  case atStart => exact ⟨0, Nat.zero_le _, rfl, Lib.hid (by simp), Lib.hid ⟨0, rfl⟩⟩
  case round =>
    obtain ⟨k, hk, rfl, HP, hwr⟩ := hrel
    obtain ⟨n, rfl⟩ := hwr.out
    clear hwr
    by_cases hlt : k < l.length
    · obtain ⟨b, off, rfl, hb, h1, h2⟩ := HLA.out k hlt
      have hx0 := HX0.out
      have hx1 := HX1.out
      have hsz := HSZ.out
      have hi : (k : Int) < l.length := by omega
      have hne := fun w => eql_sm x l[k] w
      by_cases he : x = l[k]
      · simp only [decide_eq_true he] at hne
        clear he HP
        generalize l[k] = y at *
        go_wp2
        go_quiet (fail)
        go_wp2
        go_ret
        exact ⟨⟨k, rfl⟩, below_drewN (HB.out _) _⟩
      · have HN : Hid (x ∉ l.take (k + 1)) := Lib.hid (by
          rw [take_snoc hlt, List.mem_append]
          rintro (h | h)
          · exact HP.out h
          · exact he (List.mem_singleton.1 h))
        simp only [decide_eq_false he] at hne
        clear he HP
        generalize l[k] = y at *
        go_wp2
        go_quiet (fail)
        go_wp2
        go_roundw
        case rel => exact ⟨k + 1, by omega, by go_num, HN, Lib.hid ⟨_, rfl⟩⟩
        case measure => simp [intOf]; omega
    · exfalso
      have h := HP.out
      rw [List.take_of_length_le (by omega)] at h
      exact h HX.out
set_option maxHeartbeats 1000000 in
theorem con_any {A : Option Addr} {c : Nat} {l : List S} {W : World} (x : S) (hl : l.length ≤ 1000) (hx : x ∈ l) (h : LF W A c l) :
    Calls Try.prog 27 #[.slice A l.length c, .agg #[.int .i64 x.1, .int .i64 x.2]] W fun e w' => e = .returned (.bool true) ∧ Below W.heap.size W w' := by
  have B1 : Hid (Below W.heap.size W (W.alloc (.cells #[.int .i64 x.1, .int .i64 x.2] 33))) := Lib.hid ((Below.refl _ _).alloc (Nat.le_refl _) _)
  have C := Lib.hid (index_any l (by omega) A c x hx _ (h.ls.up B1.out))
  clear h hx
  go_enter Try.func27, Try.ntmps27
  go_wp2_with (go_at_call 46; (with_reducible refine C.out.mono ?_); rintro e w2 ⟨⟨k, rfl⟩, hb⟩; have HB := Lib.hid (B1.out.trans (hb.mono B1.out.size)); clear hb)
  go_ret
  exact ⟨ret_bool (by simp), HB.out⟩
end Go.Proofs.Ytobipbedkkmlcaa.Sr
