/- Layer 5: Format of the program; Hash. -/
import Derived.Lib.SlBytesConst
import Derived.Test.YtbphhdmnfepbnaaLM
import Derived.Test.YtbphhdmnfepbnaaLW
set_option linter.unusedVariables false
set_option linter.unusedSimpArgs false
namespace Go.Proofs.Ytbphhdmnfepbnaa.Lab
open Go.RowKit
/-- What a round of Format holds. -/
structure FS (w : World) (vb : Value) (lb : List UInt8) (g : Nat) (x : Lb) (V : World) : Prop where
  own : OwnM V w.heap.size vb lb
  bel : Below w.heap.size w V
  box : V.heap[g]? = some (.cells #[.string x.n, .string x.v] 29 (0, 0))
  ge : w.heap.size ≤ V.heap.size
theorem FS.cells {w V : World} {vb : Value} {lb : List UInt8} {g : Nat} {x : Lb} (h : FS w vb lb g x V) : V.cell? ⟨g, 0, none⟩ = some (.string x.n) ∧ V.cell? ⟨g, 1, none⟩ = some (.string x.v) := by
  constructor <;> simp [World.cell?, h.box]
theorem FS.lt {w V : World} {vb : Value} {lb : List UInt8} {g : Nat} {x : Lb} (h : FS w vb lb g x V) : g < V.heap.size := (Array.getElem?_eq_some_iff.1 h.box).1
theorem FS.app {w V V0 V1 : World} {vb v1 : Value} {lb m : List UInt8} {g : Nat} {x : Lb} (h : FS w vb lb g x V) (hV : Below V.heap.size V V0) (hg : V0.grownBy V1 vb.ownBlock) (ho : OwnM V1 w.heap.size v1 m) : FS w v1 m g x V1 :=
  ⟨ho, (h.bel.trans (hV.mono h.ge)).grown hg (Nat.le_trans h.ge hV.size) (fun g e => (h.own.lt g e).1), (hg.block g (Nat.lt_of_lt_of_le h.lt hV.size) (h.own.ne h.box)).trans ((hV.block g h.lt).trans h.box), Nat.le_trans h.ge (Nat.le_trans hV.size hg.size)⟩
theorem fin_below {w V V0 V1 : World} {vb : Value} {lb : List UInt8} (ho : OwnM V w.heap.size vb lb) (hb : Below w.heap.size w V) (hge : w.heap.size ≤ V.heap.size) (hV : Below V.heap.size V V0) (hg : V0.grownBy V1 vb.ownBlock) : Below w.heap.size w V1 :=
  (hb.trans (hV.mono hge)).grown hg (Nat.le_trans hge hV.size) (fun g e => (ho.lt g e).1)
theorem bytes_one (V : World) (c : UInt8) : ∀ j u, (Lib.byteCells [c])[j]? = some u → (V.alloc (.cells #[.int .u8 (c.toNat : Int)] 5)).cell? ((⟨V.heap.size, 0, none⟩ : Addr).add j) = some u := cell_one_new V (.int .u8 (c.toNat : Int)) 5
theorem bytes_at (V : World) (c : UInt8) (g : Nat) (h : V.heap.size = g) : ∀ j u, (Lib.byteCells [c])[j]? = some u → (V.alloc (.cells #[.int .u8 (c.toNat : Int)] 5)).cell? ((⟨g, 0, none⟩ : Addr).add j) = some u := by
  subst h
  exact bytes_one V c
set_option maxRecDepth 100000 in
set_option maxHeartbeats 4000000 in
theorem format_any (l : List Lb) (hl : l.length ≤ 100000) (hs : ∀ x ∈ l, x.n.size ≤ 100000 ∧ x.v.size ≤ 100000) (hf : (fmtL l).length ≤ 1000000) (A : Option Addr) (c : Nat) (w : World) (hA : LS w w.heap.size A l) :
    Calls Try.prog 25 #[.slice A l.length c] w (StrPost (fmtL l) w) := by
  have HA := Lib.hid hA
  have HZ := Lib.hid hs
  clear hA hs
  have O0 : Hid (OwnM (w.alloc (.cells #[.int .u8 123] 5 (1, 2))) w.heap.size (.slice (some ⟨w.heap.size, 0, none⟩) 1 1) ([123] ++ bodyL (l.take 0))) :=
    .inr ⟨rfl, w.heap.size, rfl, Nat.le_refl _, heap_alloc_new w _⟩
  have B0 : Hid (Below w.heap.size w (w.alloc (.cells #[.int .u8 123] 5 (1, 2)))) := (Below.refl _ _).alloc (Nat.le_refl _) _
  have kc := fun (w : World) (C : Array Value) (n c : Nat) => Lib.run_convert_bytes_const (P := Try.prog) w 47 5 C n c Try.underlying47 Try.underlying5
  go_enter Try.func25, Try.ntmps25
  go_wp2
  go_loopw [3, 10] (fun vo vi wr => ∃ (k : Nat), k ≤ l.length ∧ vi = .int .i64 k ∧ Hid (OwnM wr w.heap.size vo ([123] ++ bodyL (l.take k))) ∧ Hid (Below w.heap.size w wr)) (fun _ vi _ => l.length - (intOf vi).toNat)
  case atStart => exact ⟨0, by omega, rfl, O0, B0⟩
  case round =>
    clear O0 B0 kc
    obtain ⟨k, hk, rfl, HO, HB⟩ := hrel
    by_cases hlt : k < l.length
    · obtain ⟨b, off, rfl, hb, h1', h2'⟩ := HA.out.at_ hlt
      have h1 := (HB.out.cell (p := ⟨b, off + k * 2, none⟩) hb).trans h1'
      have h2 := (HB.out.cell (p := ⟨b, off + k * 2 + 1, none⟩) hb).trans h2'
      obtain ⟨zn, zv⟩ := HZ.out _ (List.getElem_mem hlt)
      clear h1' h2'
      have F0 : Hid (FS w u3 ([123] ++ bodyL (l.take k)) wr.heap.size l[k] (wr.alloc (.cells #[.string l[k].n, .string l[k].v] 29))) :=
        ⟨HO.out.below ((Below.refl _ _).alloc (Nat.le_refl _) _), HB.out.alloc HB.out.size _, heap_alloc_new wr _, by have := HB.out.size; simp; omega⟩
      have hlen : (bodyL (l.take k)).length ≤ 1000000 := by
        have h1 := bodyL_take_le l k
        rw [fmtL_len] at hf
        omega
      have HEZ := Lib.hid (bodyL_zero hlt)
      have HEP := Lib.hid (bodyL_pos hlt)
      generalize bodyL (l.take k) = m at *
      have hlm : ([123] ++ m).length = m.length + 1 := by rw [List.length_append, List.length_singleton]; exact Nat.add_comm _ _
      obtain ⟨mm, hmm⟩ : ∃ mm, [123] ++ m = mm := ⟨_, rfl⟩
      rw [hmm] at hlm F0
      have HMM := Lib.hid hmm
      clear hmm HO
      have hmb : mm.length ≤ 1000001 := by omega
      have hqb := quo_len l[k].v.data.toList
      rw [show l[k].v.data.toList.length = l[k].v.size from Array.length_toList] at hqb
      have hnl : l[k].n.data.toList.length = l[k].n.size := Array.length_toList
      have HNL := Lib.hid hnl
      clear hnl hlm
      obtain ⟨c0, c1⟩ := F0.out.cells
      have HGB := Lib.hid HB.out.size
      by_cases h0 : 0 < k
      · have hg : decide (0 < k) = true := by simp [h0]
        have HE := Lib.hid (HEP.out h0)
        clear HEZ HEP
        go_wp2_with (first
            | (at_builtin; refine wpList_append_M rfl (.tmp 17) (.tmp 18) rfl w.heap.size u3 mm rfl (F0.out.own.below ((Below.refl _ _).alloc (Nat.le_refl _) _)) ⟨wr.heap.size + 1, 0, none⟩ 1 [44] 1 rfl rfl (by decide) (bytes_at _ 44 _ (by simp)) (by simp only [List.length_singleton]; omega) (by have := HGB.out; simp; omega) ?_; intro v1 w1 ho hg; have F1 := Lib.hid (F0.out.app ((Below.refl _ _).alloc (Nat.le_refl _) _) hg (.inl ho)); clear ho hg; obtain ⟨d0, d1⟩ := F1.out.cells; have HG1 := Lib.hid F1.out.lt)
            | (at_builtin; refine wpList_append_M_string rfl (.tmp 20) (.tmp 22) rfl w.heap.size v1 (mm ++ [44]) rfl F1.out.own l[k].n rfl (by have := HNL.out; (try simp only [List.length_append, List.length_singleton, List.length_cons, List.length_nil]); omega) F1.out.ge ?_; intro v2 w2 ho hg _; have F2 := Lib.hid (F1.out.app (Below.refl _ _) hg ho); clear ho hg)
            | (at_builtin; refine wpList_append_M_string rfl (.tmp 24) (.const (.string ⟨#[61, 34]⟩)) rfl w.heap.size v2 _ rfl F2.out.own ⟨#[61, 34]⟩ rfl (by have := HNL.out; (try simp only [List.length_append, List.length_singleton, List.length_cons, List.length_nil]); have h2 : (⟨#[61, 34]⟩ : ByteArray).size = 2 := rfl; omega) F2.out.ge ?_; intro v3 w3 _ hg ho; have OB3 := Lib.hid (ho (by decide)); have F3 := Lib.hid (F2.out.app (Below.refl _ _) hg (.inl OB3.out)); clear ho hg; obtain ⟨e0, e1⟩ := F3.out.cells)
            | (go_at_call 48; (with_reducible refine (escaped_any l[k].v zv w.heap.size v3 _ (by have := HNL.out; (try simp only [List.length_append, List.length_singleton, List.length_cons, List.length_nil]); have h2 : (⟨#[61, 34]⟩ : ByteArray).data.toList.length = 2 := rfl; omega) w3 OB3.out F3.out.ge).mono ?_); rintro e w4 ⟨v4, rfl, ho, hb⟩; have O4 := Lib.hid ho; have B4 := Lib.hid (F3.out.bel.trans hb); have G4 := Lib.hid (Nat.le_trans F3.out.ge hb.size); clear ho hb)
            | (at_builtin; refine wpList_append_M rfl (.tmp 30) (.tmp 31) rfl w.heap.size v4 _ rfl (OwnM.below (.inl O4.out) ((Below.refl _ _).alloc (Nat.le_refl _) _)) ⟨w4.heap.size, 0, none⟩ 1 [34] 1 rfl rfl (by decide) (bytes_one w4 34) (by have := HNL.out; (try simp only [List.length_append, List.length_singleton, List.length_cons, List.length_nil]); have h2 : (⟨#[61, 34]⟩ : ByteArray).data.toList.length = 2 := rfl; omega) (by have := G4.out; simp; omega) ?_; intro v5 w5 ho hg; have O5 := Lib.hid ho; have B5 := Lib.hid (fin_below (.inl O4.out) B4.out G4.out ((Below.refl _ _).alloc (Nat.le_refl _) _) hg); clear ho hg))
        go_roundw
        case rel =>
          refine ⟨k + 1, by omega, by go_num, .inl ?_, B5⟩
          rw [HE.out]
          have h5 := O5.out
          rw [← HMM.out] at h5
          have e : [123] ++ (m ++ [44] ++ lab1 l[k]) = [123] ++ m ++ [44] ++ l[k].n.data.toList ++ (⟨#[61, 34]⟩ : ByteArray).data.toList ++ quo l[k].v.data.toList ++ [34] := by
            unfold lab1
            simp [List.append_assoc]
          rw [e]
          exact h5
        case measure => simp [intOf]; omega
      · have hg : decide (0 < k) = false := by simp; omega
        have HE := Lib.hid (HEZ.out (by omega))
        clear HEZ HEP
        go_wp2_with (first
            | (at_builtin; refine wpList_append_M_string rfl (.tmp 20) (.tmp 22) rfl w.heap.size u3 mm rfl F0.out.own l[k].n rfl (by have := HNL.out; (try simp only [List.length_append, List.length_singleton, List.length_cons, List.length_nil]); omega) F0.out.ge ?_; intro v2 w2 ho hg _; have F2 := Lib.hid (F0.out.app (Below.refl _ _) hg ho); clear ho hg)
            | (at_builtin; refine wpList_append_M_string rfl (.tmp 24) (.const (.string ⟨#[61, 34]⟩)) rfl w.heap.size v2 _ rfl F2.out.own ⟨#[61, 34]⟩ rfl (by have := HNL.out; (try simp only [List.length_append, List.length_singleton, List.length_cons, List.length_nil]); have h2 : (⟨#[61, 34]⟩ : ByteArray).size = 2 := rfl; omega) F2.out.ge ?_; intro v3 w3 _ hg ho; have OB3 := Lib.hid (ho (by decide)); have F3 := Lib.hid (F2.out.app (Below.refl _ _) hg (.inl OB3.out)); clear ho hg; obtain ⟨e0, e1⟩ := F3.out.cells)
            | (go_at_call 48; (with_reducible refine (escaped_any l[k].v zv w.heap.size v3 _ (by have := HNL.out; (try simp only [List.length_append, List.length_singleton, List.length_cons, List.length_nil]); have h2 : (⟨#[61, 34]⟩ : ByteArray).data.toList.length = 2 := rfl; omega) w3 OB3.out F3.out.ge).mono ?_); rintro e w4 ⟨v4, rfl, ho, hb⟩; have O4 := Lib.hid ho; have B4 := Lib.hid (F3.out.bel.trans hb); have G4 := Lib.hid (Nat.le_trans F3.out.ge hb.size); clear ho hb)
            | (at_builtin; refine wpList_append_M rfl (.tmp 30) (.tmp 31) rfl w.heap.size v4 _ rfl (OwnM.below (.inl O4.out) ((Below.refl _ _).alloc (Nat.le_refl _) _)) ⟨w4.heap.size, 0, none⟩ 1 [34] 1 rfl rfl (by decide) (bytes_one w4 34) (by have := HNL.out; (try simp only [List.length_append, List.length_singleton, List.length_cons, List.length_nil]); have h2 : (⟨#[61, 34]⟩ : ByteArray).data.toList.length = 2 := rfl; omega) (by have := G4.out; simp; omega) ?_; intro v5 w5 ho hg; have O5 := Lib.hid ho; have B5 := Lib.hid (fin_below (.inl O4.out) B4.out G4.out ((Below.refl _ _).alloc (Nat.le_refl _) _) hg); clear ho hg))
        go_roundw
        case rel =>
          refine ⟨k + 1, by omega, by go_num, .inl ?_, B5⟩
          rw [HE.out]
          have h5 := O5.out
          rw [← HMM.out] at h5
          have e : [123] ++ (m ++ lab1 l[k]) = [123] ++ m  ++ l[k].n.data.toList ++ (⟨#[61, 34]⟩ : ByteArray).data.toList ++ quo l[k].v.data.toList ++ [34] := by
            unfold lab1
            simp [List.append_assoc]
          rw [e]
          exact h5
        case measure => simp [intOf]; omega
    · have h2 := HO.out
      rw [List.take_of_length_le (by omega)] at h2
      have H2 := Lib.hid h2
      have hbl : ([123] ++ bodyL l).length ≤ 1000001 := by
        rw [fmtL_len] at hf
        rw [List.length_append, List.length_singleton]
        omega
      have HFL : Hid (fmtL l = [123] ++ bodyL l ++ [125]) := rfl
      generalize fmtL l = res at *
      generalize [123] ++ bodyL l = mm at *
      clear HO h2
      go_wp2_with (at_builtin; refine wpList_append_M rfl (.tmp 34) (.tmp 35) rfl w.heap.size u3 mm rfl (H2.out.below ((Below.refl _ _).alloc (Nat.le_refl _) _)) ⟨wr.heap.size, 0, none⟩ 1 [125] 1 rfl rfl (by decide) (bytes_one wr 125) (by simp only [List.length_singleton]; omega) (by have := HB.out.size; simp; omega) ?_; intro v1 w1 ho hg; have BF := Lib.hid (fin_below H2.out HB.out HB.out.size ((Below.refl _ _).alloc (Nat.le_refl _) _) hg); clear hg; obtain ⟨Ac, nc, cc, rfl, hcv⟩ := ho.conv; clear ho)
      go_ret
      rw [HFL.out]
      exact ⟨rfl, BF.out⟩
set_option maxHeartbeats 1000000 in
theorem fmt_size (l : List Lb) (hf : (fmtL l).length ≤ 1000000) : (⟨(fmtL l).toArray⟩ : ByteArray).size ≤ maxLen := by
  have h : (⟨(fmtL l).toArray⟩ : ByteArray).data.toList.length = (⟨(fmtL l).toArray⟩ : ByteArray).size := Array.length_toList
  rw [ba_mk] at h
  rw [← h]
  unfold maxLen
  omega
set_option maxHeartbeats 1000000 in
theorem hashList_any (l : List Lb) (hl : l.length ≤ 100000) (hs : ∀ x ∈ l, x.n.size ≤ 100000 ∧ x.v.size ≤ 100000) (hf : (fmtL l).length ≤ 1000000) (A : Option Addr) (c : Nat) (w : World) (hA : LS w w.heap.size A l) :
    Calls Try.prog 27 #[.slice A l.length c] w fun e w' => e = .returned (.int .i64 (hashL (fmtL l))) ∧ Below w.heap.size w w' := by
  have C1 : Hid (Calls Try.prog 25 #[.slice A l.length c] w fun e w' => e = .returned (.string ⟨(fmtL l).toArray⟩) ∧ Below w.heap.size w w') := format_any l hl hs hf A c w hA
  have C2 : Hid (∀ w, Calls Try.prog 29 #[.string ⟨(fmtL l).toArray⟩] w fun e w' => e = .returned (.int .i64 (hashL (fmtL l))) ∧ w = w') := fun w => by
    have h := hash_any ⟨(fmtL l).toArray⟩ (fmt_size l hf) w
    rw [ba_mk] at h
    exact h
  clear hs hf hA
  generalize (⟨(fmtL l).toArray⟩ : ByteArray) = t at *
  generalize hashL (fmtL l) = h at *
  go_enter Try.func27, Try.ntmps27
  go_wp2_with (first | (go_at_call 25; (with_reducible refine C1.out.mono ?_); rintro e w1 ⟨rfl, hb⟩; have HB := Lib.hid hb; clear hb) | (go_at_call 29; (with_reducible refine (C2.out _).mono ?_); rintro e w2 ⟨rfl, rfl⟩))
  go_ret
  exact ⟨rfl, HB.out⟩
set_option maxHeartbeats 1000000 in
theorem refHashList_any (l : List Lb) (hl : l.length ≤ 100000) (hs : ∀ x ∈ l, x.n.size ≤ 100000 ∧ x.v.size ≤ 100000) (hf : (fmtL l).length ≤ 1000000) (A : Option Addr) (c : Nat) (w : World) (hA : LS w w.heap.size A l) :
    Calls Try.prog 28 #[.slice A l.length c] w fun e w' => e = .returned (.int .i64 (hashL (fmtL l))) ∧ Below w.heap.size w w' := by
  have C1 : Hid (Calls Try.prog 26 #[.slice A l.length c] w fun e w' => e = .returned (.string ⟨(fmtL l).toArray⟩) ∧ Below w.heap.size w w') := refFormat_any l hl hs hf A c w hA
  have C2 : Hid (∀ w, Calls Try.prog 30 #[.string ⟨(fmtL l).toArray⟩] w fun e w' => e = .returned (.int .i64 (hashL (fmtL l))) ∧ w = w') := fun w => by
    have h := refHash_any ⟨(fmtL l).toArray⟩ (fmt_size l hf) w
    rw [ba_mk] at h
    exact h
  clear hs hf hA
  generalize (⟨(fmtL l).toArray⟩ : ByteArray) = t at *
  generalize hashL (fmtL l) = h at *
  go_enter Try.func28, Try.ntmps28
  go_wp2_with (first | (go_at_call 26; (with_reducible refine C1.out.mono ?_); rintro e w1 ⟨rfl, hb⟩; have HB := Lib.hid hb; clear hb) | (go_at_call 30; (with_reducible refine (C2.out _).mono ?_); rintro e w2 ⟨rfl, rfl⟩))
  go_ret
  exact ⟨rfl, HB.out⟩
end Go.Proofs.Ytbphhdmnfepbnaa.Lab
