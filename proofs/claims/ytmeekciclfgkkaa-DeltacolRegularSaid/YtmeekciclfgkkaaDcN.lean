/- Layer 9: DeltacolRegular's walk. -/
import Derived.OpenShut
import Derived.Test.YtmeekciclfgkkaaDcL
set_option linter.unusedVariables false
set_option linter.unusedSimpArgs false
namespace Go.Proofs.Ytmeekciclfgkkaa.Dc
open Go.RowKit
theorem regular_snoc (f d : Int) (k : Nat) : regular f d (k + 1) = regular f d k ++ [f + (k : Int) * d] := by
  unfold regular
  rw [List.range_succ, List.map_append]
  rfl
theorem regular_len (f d : Int) (k : Nat) : (regular f d k).length = k := by simp [regular]
theorem regular_valid {d : Int} (hd : 1 ≤ d) (hd2 : d ≤ 1048576) : ∀ (n : Nat) (f b : Int), b < f → 1 ≤ f → f + (n : Int) * 1048576 ≤ 1099511627776 → chkT b (regular f d n) = 0
  | 0, _, _, _, _, _ => rfl
  | n + 1, f, b, h1, h2, h3 => by
    rw [regular_succ, chkT, if_pos (by unfold okT; omega), if_pos h1]
    exact regular_valid hd hd2 n (f + d) f (by omega) (by omega) (by omega)
theorem same_valid {f : Int} (h : okV f) (n : Nat) : chkV (List.replicate n f) = 0 := chkV_all fun x hx => by rw [List.eq_of_mem_replicate hx]; exact h
theorem uv2 {m : Nat} (h : m ≤ 500) : (Lib.uvarint m).length ≤ 2 := Lib.uvarint_length 1 m (by omega)
theorem zeros_len {m : Nat} (h : m ≤ 500) : (rleB (List.replicate m 0)).length ≤ 3 := by
  cases m with
  | zero => exact Nat.zero_le _
  | succ m =>
    unfold rleB
    rw [rle_same]
    have h1 := uv2 h
    have h2 : (sB 0).length ≤ 1 := Lib.uvarint_length 0 (fold 0) (by decide)
    show (runB ((0, m + 1) :: [])).length ≤ 3
    rw [runB_cons, List.length_append, List.length_append]
    have h3 : (runB []).length = 0 := rfl
    omega
theorem same_len {f : Int} {n : Nat} (h : n ≤ 500) : (tailV (List.replicate n f)).length ≤ (sB f).length + 3 := by
  cases n with
  | zero => exact Nat.zero_le _
  | succ n =>
    have h1 := zeros_len (m := n) (by omega)
    have e : tailV (List.replicate (n + 1) f) = sB f ++ rleB (diffs (List.replicate (n + 1) f)) := by rw [List.replicate_succ]; rfl
    rw [e, diffs_same, List.length_append]
    exact Nat.add_le_add_left h1 _
theorem enc_same_len {f : Int} {n : Nat} (h : n ≤ 500) : (encV (List.replicate n f)).length ≤ (sB f).length + 18 := by
  have h1 := same_len (f := f) h
  have h2 := uv2 h
  unfold encV
  rw [List.length_append, List.length_replicate]
  omega
theorem enc_reg_len {f d : Int} {n : Nat} (h : n ≤ 500) : (encT (regular f d n)).length ≤ (sB f).length + (sB d).length + 18 := by
  have h2 := uv2 h
  unfold encT
  rw [List.length_append, regular_len]
  cases n with
  | zero =>
    have : (tailT (regular f d 0)).length = 0 := rfl
    omega
  | succ n =>
    have h1 := same_len (f := d) (n := n) (by omega)
    have e : tailT (regular f d (n + 1)) = sB f ++ tailV (diffs (regular f d (n + 1))) := by rw [regular_succ]; rfl
    rw [e, diffs_regular, List.length_append]
    rw [Nat.add_sub_cancel]
    omega
theorem enc_pos (l : List Int) : 0 < (encT l).length := by
  have := Lib.uvarint_pos l.length
  unfold encT
  rw [List.length_append]
  omega
theorem emp_false {s : ByteArray} (h : 0 < s.size) : s.toList.isEmpty = false := by
  rw [ByteArray.toList_eq]
  cases hl : s.data.toList with
  | nil =>
    have : s.data.toList.length = s.size := Array.length_toList
    rw [hl] at this
    simp at this
    omega
  | cons x l => rfl
/-- Two rows of the call's own. -/
structure Two (B : Nat) (w W : World) (v1 v2 : Value) (l1 l2 : List Int) : Prop where
  o1 : W.ownsRow B 3 1 v1 l1.length (ic l1)
  o2 : W.ownsRow B 3 1 v2 l2.length (ic l2)
  ne : ∀ g, v1.ownBlock = some g → v2.ownBlock ≠ some g
  b : Below B w W
theorem reads_new (w : World) (x : Int) : Reads (w.alloc (.cells #[.int .i64 x] 3)) (w.heap.size + 1) 1 (some ⟨w.heap.size, 0, none⟩) 1 [.int .i64 x] :=
  ⟨rfl, fun _ => ⟨_, rfl, by simp, cell_one_new _ _ _⟩⟩
theorem Two.first {B : Nat} {w W w1 : World} {v1 v2 v' : Value} {l1 l2 l' : List Int} {o : Obj} (h : Two B w W v1 v2 l1 l2) (hB : B ≤ W.heap.size) (ho : w1.ownsRow B 3 1 v' l'.length (ic l')) (hg : (W.alloc o).grownBy w1 v1.ownBlock) (hv : v'.ownBlock = v1.ownBlock ∨ v'.ownBlock = some (W.alloc o).heap.size) : Two B w w1 v' v2 l' l2 := by
  refine ⟨ho, (h.o2.alloc o).kept hg ?_, fun g hg2 e => ?_, (h.b.alloc hB o).grown hg (by simp; omega) fun k hk => (h.o1.lt k hk).1⟩
  · cases hq : v2.ownBlock with
    | none => exact .inl rfl
    | some g => exact .inr fun e => h.ne g e.symm hq
  · rcases hv with hv | hv
    · exact h.ne g (hv.symm.trans hg2) e
    · rw [hv] at hg2
      cases hg2
      have := (h.o2.lt _ e).2
      simp at this
      omega
theorem Two.swap {B : Nat} {w W : World} {v1 v2 : Value} {l1 l2 : List Int} (h : Two B w W v1 v2 l1 l2) : Two B w W v2 v1 l2 l1 := ⟨h.o2, h.o1, fun g h1 h2 => h.ne g h2 h1, h.b⟩
theorem sums_facts {a b s t : Nat} (h1 : s ≤ a + b + 18) (h2 : t ≤ a + 18) (h3 : a ≤ 100) (h4 : b ≤ 100) : (s : Int) ≤ a + b + 18 ∧ (t : Int) ≤ a + 18 ∧ wrap64 ((a : Int) + b) = (a : Int) + b ∧ wrap64 ((a : Int) + b + 18) = (a : Int) + b + 18 ∧ wrap64 ((a : Int) + 18) = (a : Int) + 18 := by
  refine ⟨by omega, by omega, ?_, ?_, ?_⟩ <;> (unfold wrap64; omega)
theorem regular_facts {f d : Int} {n : Nat} (hf1 : 1 ≤ f) (hf2 : f ≤ 1073741824) (hd1 : 1 ≤ d) (hd2 : d ≤ 1048576) (hn : n ≤ 500) : ∃ ts tt ta tb : ByteArray, ts.size ≤ ta.size + tb.size + 18 ∧ tt.size ≤ ta.size + 18 ∧ ta.size ≤ 100 ∧ tb.size ≤ 100 ∧ ts.toList.isEmpty = false ∧
    (∀ v, Calls Try.prog 13 #[.string ⟨#[]⟩, .int .i64 f] v fun e w' => e = .returned (.tuple #[.string ta, .int .i64 0]) ∧ Below v.heap.size v w') ∧
    (∀ v, Calls Try.prog 13 #[.string ⟨#[]⟩, .int .i64 d] v fun e w' => e = .returned (.tuple #[.string tb, .int .i64 0]) ∧ Below v.heap.size v w') ∧
    (∀ (v : World) (sv : Value), Ints v.heap.size v sv (regular f d n) → Calls Try.prog 7 #[sv] v fun e w' => e = .returned (.tuple #[.string ts, .int .i64 0]) ∧ Below v.heap.size v w') ∧
    (∀ (v : World) (sv : Value), Ints v.heap.size v sv (List.replicate n f) → Calls Try.prog 11 #[sv] v fun e w' => e = .returned (.tuple #[.string tt, .int .i64 0]) ∧ Below v.heap.size v w') := by
  have h1 := regular_valid hd1 hd2 n f 0 (by omega) hf1 (by omega)
  have h2 := same_valid (f := f) (by unfold okV; omega) n
  have h3 := enc_reg_len (f := f) (d := d) hn
  have h4 := enc_same_len (f := f) hn
  have h5 := sB_len (z := f) (by omega) (by omega)
  have h6 := sB_len (z := d) (by omega) (by omega)
  have h0 : (⟨#[]⟩ : ByteArray).size = 0 := rfl
  refine ⟨⟨(encT (regular f d n)).toArray⟩, ⟨(encV (List.replicate n f)).toArray⟩, (⟨#[]⟩ : ByteArray) ++ ⟨(sB f).toArray⟩, (⟨#[]⟩ : ByteArray) ++ ⟨(sB d).toArray⟩, ?_, ?_, ?_, ?_, ?_, fun v => signed_any ⟨#[]⟩ f v (by decide) (by omega) (by omega), fun v => signed_any ⟨#[]⟩ d v (by decide) (by omega) (by omega), (back_times (by rw [regular_len]; omega) h1).enc, (back_values (by rw [List.length_replicate]; omega) h2).enc⟩
  · rw [mk_size, app_size, app_size]; omega
  · rw [mk_size, app_size]; omega
  · rw [app_size]; omega
  · rw [app_size]; omega
  · exact emp_false (by rw [mk_size]; exact enc_pos _)
set_option maxHeartbeats 8000000 in
set_option maxRecDepth 100000 in
theorem regular_walk (f d n : Int) (w : World) (wf : (Lit.int .i64 f).wf = true) (wd : (Lit.int .i64 d).wf = true) (wn : (Lit.int .u16 n).wf = true) : Calls Try.prog 4 #[.int .i64 f, .int .i64 d, .int .u16 n] w fun e w' => e = .returned (.bool true) ∧ Below w.heap.size w w' := by
  have B0 := Lib.hid (Below.refl w.heap.size w)
  have hn := bounds_u16 wn
  clear wf wd wn
  by_cases h1 : f < 1
  · go_enter Try.func4, Try.ntmps4
    go_wp2_with fail
    refine (awake_any _).mono ?_
    rintro e w9 ⟨rfl, hb⟩
    have B9 := Lib.hid (B0.out.trans (hb.mono B0.out.size))
    clear hb
    go_wp2
    go_ret
    exact ⟨rfl, B9.out⟩
  by_cases h2 : 1073741824 < f
  · go_enter Try.func4, Try.ntmps4
    go_wp2_with fail
    refine (awake_any _).mono ?_
    rintro e w9 ⟨rfl, hb⟩
    have B9 := Lib.hid (B0.out.trans (hb.mono B0.out.size))
    clear hb
    go_wp2
    go_ret
    exact ⟨rfl, B9.out⟩
  by_cases h3 : d < 1
  · go_enter Try.func4, Try.ntmps4
    go_wp2_with fail
    refine (awake_any _).mono ?_
    rintro e w9 ⟨rfl, hb⟩
    have B9 := Lib.hid (B0.out.trans (hb.mono B0.out.size))
    clear hb
    go_wp2
    go_ret
    exact ⟨rfl, B9.out⟩
  by_cases h4 : 1048576 < d
  · go_enter Try.func4, Try.ntmps4
    go_wp2_with fail
    refine (awake_any _).mono ?_
    rintro e w9 ⟨rfl, hb⟩
    have B9 := Lib.hid (B0.out.trans (hb.mono B0.out.size))
    clear hb
    go_wp2
    go_ret
    exact ⟨rfl, B9.out⟩
  obtain ⟨q, rfl⟩ : ∃ q : Nat, n = q := ⟨n.toNat, by omega⟩
  obtain ⟨N, hN⟩ : ∃ N, q % 501 = N := ⟨_, rfl⟩
  have hN5 : N ≤ 500 := by omega
  have hNI : ((q : Int) % 501) = (N : Int) := by omega
  have HF := Lib.hid (regular_facts (n := N) (show 1 ≤ f by omega) (show f ≤ 1073741824 by omega) (show 1 ≤ d by omega) (show d ≤ 1048576 by omega) hN5)
  obtain ⟨i0, hi, hz0, hz1, hz2⟩ := info_parts infoI
  have HR : Hid (1 ≤ f ∧ f ≤ 1073741824 ∧ 1 ≤ d ∧ d ≤ 1048576) := Lib.hid (by omega)
  clear hN
  go_enter Try.func4, Try.ntmps4
  go_wp2
  go_loopw [7, 8, 36] (fun va vb vi wr => ∃ (k : Nat) (A1 A2 : Option Addr) (c1 c2 : Nat), k ≤ N ∧ va = .slice A1 k c1 ∧ vb = .slice A2 k c2 ∧ vi = .int .i64 k ∧ Hid (Two w.heap.size w wr va vb (regular f d k) (List.replicate k f)))
    (fun _ _ vi _ => N - (intOf vi).toNat)
  case atStart => exact ⟨0, none, none, 0, 0, Nat.zero_le _, rfl, rfl, rfl, Lib.hid ⟨World.ownsRow_nil _ _ _ _, World.ownsRow_nil _ _ _ _, fun g e => by simp [Value.ownBlock] at e, Below.refl _ _⟩⟩
  case round =>
    obtain ⟨k, A1, A2, c1, c2, hk, rfl, rfl, rfl, HT⟩ := hrel
    by_cases hlt : k < N
    · have hi' : (k : Int) < N := by omega
      obtain ⟨p, hp⟩ : ∃ p : Int, (k : Int) * d = p := ⟨_, rfl⟩
      have hpb : 0 ≤ p ∧ p ≤ 524288000 := by
        have hr := HR.out
        have q1 : 0 ≤ (k : Int) * d := Int.mul_nonneg (by omega) (by omega)
        have q2 : (k : Int) * d ≤ 500 * 1048576 := Int.le_trans (Int.mul_le_mul_of_nonneg_right (show (k : Int) ≤ 500 by omega) (by omega)) (Int.mul_le_mul_of_nonneg_left hr.2.2.2 (by omega))
        omega
      have hfb := HR.out
      have hw1 : wrap64 ((k : Int) * d) = p := by rw [hp]; unfold wrap64; omega
      have hw2 : wrap64 (f + p) = f + p := by unfold wrap64; omega
      have hl1 := regular_len f d k
      have HRS : Hid (ic (regular f d (k + 1)) = ic (regular f d k) ++ [.int .i64 (f + p)]) := Lib.hid (by rw [regular_snoc, hp]; unfold ic; rw [List.map_append]; rfl)
      have HRR : Hid (ic (List.replicate (k + 1) f) = ic (List.replicate k f) ++ [.int .i64 f]) := Lib.hid (by rw [List.replicate_succ']; unfold ic; rw [List.map_append]; rfl)
      have hsz : w.heap.size ≤ wr.heap.size := HT.out.b.size
      have ho1 := HT.out.o1
      rw [hl1] at ho1
      have O1 := Lib.hid ho1
      have HL1 := Lib.hid (regular_len f d (k + 1))
      have HL2 := Lib.hid (List.length_replicate (n := k + 1) (a := f))
      have HL3 := Lib.hid (List.length_replicate (n := k) (a := f))
      clear hp hpb hfb ho1 hl1
      go_wp2_with (first
        | (at_builtin; refine wpList_append_any _ rfl (.tmp 39) (.tmp 45) 22 rfl w.heap.size 3 i0 _ 1 8 Try.underlying22 hi hz0 hz1 hz2 rfl (by decide) (.slice A1 k c1) k (ic (regular f d k)) rfl (O1.out.alloc _) (wr.heap.size + 1) (some ⟨wr.heap.size, 0, none⟩) 1 1 [.int .i64 (f + p)] rfl (reads_new wr (f + p)) (by simp [Value.oneCell']) (by simp only [maxLen]; omega) (by omega) (by simp; omega) ?_; intro v3 w3 ho hg hv; have HTA : Hid (Two w.heap.size w w3 v3 (.slice A2 k c2) (regular f d (k + 1)) (List.replicate k f)) := Lib.hid (HT.out.first hsz (by rw [HRS.out, HL1.out]; exact ho) hg hv); obtain ⟨A3, c3, hv3⟩ := own_form HTA.out.o1; rw [HL1.out] at hv3; subst hv3; clear ho hg hv HT)
        | (at_builtin; refine wpList_append_any _ rfl (.tmp 47) (.tmp 49) 22 rfl w.heap.size 3 i0 _ 1 8 Try.underlying22 hi hz0 hz1 hz2 rfl (by decide) (.slice A2 k c2) k (ic (List.replicate k f)) rfl (World.ownsRow.alloc (by have h := HTA.out.o2; rw [HL3.out] at h; exact h) _) (w3.heap.size + 1) (some ⟨w3.heap.size, 0, none⟩) 1 1 [.int .i64 f] rfl (reads_new w3 f) (by simp [Value.oneCell']) (by simp only [maxLen]; omega) (by omega) (by have := HTA.out.b.size; simp; omega) ?_; intro v4 w4 ho hg hv; have HTB : Hid (Two w.heap.size w w4 (.slice A3 (k + 1) c3) v4 (regular f d (k + 1)) (List.replicate (k + 1) f)) := Lib.hid (HTA.out.swap.first HTA.out.b.size (by rw [HRR.out, HL2.out]; exact ho) hg hv).swap; obtain ⟨A4, c4, hv4⟩ := own_form HTB.out.o2; rw [HL2.out] at hv4; subst hv4; clear ho hg hv HTA))
      go_roundw
      case rel => exact ⟨k + 1, A3, A4, c3, c4, by omega, rfl, rfl, by go_num, HTB⟩
      case measure => simp [intOf]; omega
    · obtain rfl : k = N := by omega
      obtain ⟨ts, tt, ta, tb, hs1, hs2, hs3, hs4, hs5, e1, e2, e3, e4⟩ := HF.out
      have E1 := Lib.hid e1
      have E2 := Lib.hid e2
      have E3 := Lib.hid e3
      have E4 := Lib.hid e4
      have I1 : Hid (Ints wr.heap.size wr (.slice A1 k c1) (regular f d k)) := Lib.hid (Ints.of_own HT.out.o1 (Nat.le_refl _))
      have I2 : Hid (Ints wr.heap.size wr (.slice A2 k c2) (List.replicate k f)) := Lib.hid (Ints.of_own HT.out.o2 (Nat.le_refl _))
      have BR := Lib.hid HT.out.b
      obtain ⟨hsa, hsb, hwa, hwb, hwc⟩ := sums_facts hs1 hs2 hs3 hs4
      clear e1 e2 e3 e4 HF HT HR hs1 hs2 hs3 hs4
      go_wp2_with fail
      refine (E1.out _).mono ?_
      rintro e w2 ⟨rfl, hb⟩
      have B2 := Lib.hid hb
      clear hb
      go_wp2_with fail
      refine (E2.out _).mono ?_
      rintro e w3 ⟨rfl, hb⟩
      have B3 := Lib.hid (B2.out.trans (hb.mono B2.out.size))
      clear hb B2
      go_wp2_with fail
      refine (E3.out _ _ (I1.out.onto B3.out)).mono ?_
      rintro e w4 ⟨rfl, hb⟩
      have B4 := Lib.hid (B3.out.trans (hb.mono B3.out.size))
      clear hb B3
      go_wp2_with fail
      refine (E4.out _ _ (I2.out.onto B4.out)).mono ?_
      rintro e w5 ⟨rfl, hb⟩
      have B5 := Lib.hid (B4.out.trans (hb.mono B4.out.size))
      clear hb B4
      go_wp2_with fail
      refine (awake_any _).mono ?_
      rintro e w6 ⟨rfl, hb⟩
      have B6 := Lib.hid (BR.out.trans ((B5.out.trans (hb.mono B5.out.size)).mono BR.out.size))
      clear hb B5
      go_wp2
      go_ret
      exact ⟨rfl, B6.out⟩
end Go.Proofs.Ytmeekciclfgkkaa.Dc
