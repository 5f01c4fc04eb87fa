/- Layer 6: sets from pairs of bytes; literals. -/
import Derived.Deep.RegionWith
import Derived.Deep.CutRange
import Derived.Test.YtilfggnhaehbcaaPB
set_option linter.unusedVariables false
set_option linter.unusedSimpArgs false
namespace Go.Proofs.Ytilfggnhaehbcaa.Rx
open Go.RowKit
theorem Blk.drew {w : World} {g : Nat} {t : TypeId} {l : List Value} (h : Blk w g t l) : Blk w.drew g t l := h
/-- The set of the bytes from the first to the second byte of each pair. -/
def pairsF : (UInt8 → Bool) → List UInt8 → UInt8 → Bool
  | f, a :: b :: r => pairsF (addR f a b) r
  | f, _ => f
theorem pairs_step (s : ByteArray) (f : UInt8 → Bool) {k : Nat} (h : k + 1 < s.size) : pairsF f (s.data.toList.drop k) = pairsF (addR f s[k] s[k + 1]) (s.data.toList.drop (k + 2)) := by
  have e1 : s.data.toList.drop k = s[k] :: s.data.toList.drop (k + 1) := by rw [List.drop_eq_getElem_cons (by simpa using (by omega : k < s.size))]; rfl
  have e2 : s.data.toList.drop (k + 1) = s[k + 1] :: s.data.toList.drop (k + 1 + 1) := by rw [List.drop_eq_getElem_cons (by simpa using h)]; rfl
  rw [e1, e2, pairsF]
def AggPost (l : List Value) (w : World) (e : Ending) (w' : World) : Prop := e = .returned (.agg l.toArray) ∧ Below w.heap.size w w'
set_option maxHeartbeats 4000000 in
set_option maxRecDepth 100000 in
theorem ranges_any (s : ByteArray) (hs : s.size ≤ 1000) (hev : s.size % 2 = 0) (w : World) :
    Calls Try.prog 77 #[.string s] w (AggPost (clsC (pairsF none_ s.data.toList)) w) := by
  have mixed : Try.prog.follows .mixedOrders = true := by kernel_rfl
  have HEV := Lib.hid hev
  clear hev
  have HZ0 := Lib.hid (clsC_len none_)
  obtain ⟨Z, hZ⟩ : ∃ Z, Z = clsC none_ := ⟨_, rfl⟩
  have Z45 : Hid ((Try.prog.info? 45).map (·.zero) = some (some (.agg Z.toArray))) := by rw [hZ]; exact zero45
  have HZ := Lib.hid hZ
  clear hZ
  obtain ⟨L, hL⟩ : ∃ L, L = clsC (pairsF none_ s.data.toList) := ⟨_, rfl⟩
  rw [← hL]
  have HL0 := Lib.hid hL
  clear hL
  go_enter Try.func77, Try.ntmps77
  go_wp2_with (refine wpList_alloc_big rfl 45 rfl Z Z45.out ?_)
  have G0 : Hid (Blk ((w.alloc (.cells Z.toArray 45)).alloc (.cells Z.toArray 45)) w.heap.size 45 Z) := (Blk.new w 45 Z).alloc _
  have G1 : Hid (Blk ((w.alloc (.cells Z.toArray 45)).alloc (.cells Z.toArray 45)) (w.heap.size + 1) 45 Z) := by
    have h := Blk.new (w.alloc (.cells Z.toArray 45)) 45 Z
    rwa [World.size_alloc] at h
  have B0 : Hid (Below w.heap.size w ((w.alloc (.cells Z.toArray 45)).alloc (.cells Z.toArray 45))) := ((Below.refl _ _).alloc (Nat.le_refl _) _).alloc (by simp) _
  go_loopw [4] (fun vi wr => ∃ (k : Nat) (f : UInt8 → Bool), k ≤ s.size ∧ Hid (k % 2 = 0) ∧ vi = .int .i64 k ∧ Hid (Blk wr w.heap.size 45 Z) ∧ Hid (Blk wr (w.heap.size + 1) 45 (clsC f ++ [])) ∧ Hid (pairsF none_ s.data.toList = pairsF f (s.data.toList.drop k)) ∧ Hid (Below w.heap.size w wr)) (fun vi _ => s.size - (intOf vi).toNat)
  case atStart => exact ⟨0, none_, by omega, rfl, rfl, G0, by rw [← HZ.out, List.append_nil]; exact G1, rfl, B0⟩
  case round =>
    clear G0 G1 B0
    obtain ⟨k, f, hk, hk2, rfl, HG, HF, HP, HB⟩ := hrel
    by_cases hlt : k < s.size
    · have hlt1 : k + 1 < s.size := by have := hk2.out; have := HEV.out; omega
      have hw : IntKind.i64.wrap ((k : Int) + 1) = (k : Int) + 1 := IntWalk.i64_in _ (by omega)
      have hw0 : (0 : Int) ≤ (k : Int) + 1 := by omega
      have C := Lib.hid (fun wx hx => add_any (w.heap.size + 1) 45 f [] s[k] s[k + 1] wx hx)
      go_wp2_with fail
      go_region_with (go_at_call 83; (with_reducible refine (C.out _ HF.out.drew).mono ?_); rintro e w1 ⟨rfl, hf1, hb1, hs1⟩; have HF1 := Lib.hid hf1; have HB1 := Lib.hid hb1; have HS1 := Lib.hid hs1; clear hf1 hb1 hs1)
      all_goals
        have HZW : Hid (w.heap.size + 1 ≥ w.heap.size ∧ w.heap.size ≤ wr.heap.size) := ⟨by omega, HB.out.size⟩
        go_wp2_with fail
        go_roundw
        case rel =>
          refine ⟨k + 2, addR f s[k] s[k + 1], by omega, by have := hk2.out; show (k + 2) % 2 = 0; omega, by go_num, HG.out.drew.but HB1.out (by omega), HF1.out, ?_, ?_⟩
          · rw [← pairs_step s f hlt1]
            exact HP.out
          · exact HB.out.drew.trans (HB1.out.below HZW.out.2 (fun n hn => by omega))
        case measure => simp [intOf]; omega
    · obtain rfl : k = s.size := by omega
      have HE : Hid (pairsF none_ s.data.toList = f) := by
        rw [HP.out, List.drop_of_length_le (by rw [Array.length_toList]; exact Nat.le_refl _)]
        rfl
      have HC : Hid (wr.rangeAt (w.heap.size + 1) 0 (clsC f)) := HF.out.part rfl
      have HL := Lib.hid (clsC_len f)
      have HO := Lib.hid (clsC_one f)
      have HZL : Hid (Z.length = 256) := by rw [HZ.out]; exact clsC_len none_
      rw [← HE.out, ← HL0.out] at HC HL HO
      have hsz : Hid ((Try.prog.info? 45).map (·.size) = some L.length) := by rw [HL.out]; exact size45
      have hze : Hid (Z.length = L.length) := HZL.out.trans HL.out.symm
      go_wp2_with (first
        | (refine wpList_load_mid rfl 45 (.tmp 3) rfl (w.heap.size + 1) 0 rfl L _ HC.out Try.underlying45 rfl hsz.out ?_)
        | (refine wpList_store_big rfl 45 (.tmp 2) (.tmp 19) rfl w.heap.size L rfl rfl 45 Z HG.out hsz.out hze.out HO.out ?_))
      refine bodyPost_ret (results_cell_row rfl _ _ w.heap.size 45 L.toArray (0, 0) _ rfl (HG.out.setRow L) Try.underlying45 rfl (by simpa using hsz.out)) rfl ⟨rfl, ?_⟩
      exact HB.out.trans (((But.refl (· = w.heap.size) wr).setRow (fun _ => rfl) _).below HB.out.size (fun n hn => by omega))
/-- A literal's factor. -/
theorem lit_f (c x : UInt8) : addR none_ c c x = (x == c) := by
  unfold addR none_
  rw [Bool.false_or, Bool.eq_iff_iff, decide_eq_true_iff, beq_iff_eq]
  exact ⟨fun h => UInt8.toNat_inj.1 (by omega), fun h => by subst h; omega⟩
end Go.Proofs.Ytilfggnhaehbcaa.Rx
