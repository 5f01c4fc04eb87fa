
/- Layer 6: the program's reader, its smallest parts. Layer 6: the program's sets of bytes, and its literals. Layer 6: sets from pairs of bytes; literals. Layer 6: literals and escapes of the program. Layer 6: escapes, bytes and items of classes. Layer 6: escape of the program. Layer 6: member and item of the program. Layer 6: item and class of the program. -/
import Derived.Lib.IndexEntry
import Derived.Lib.IndexLaws
import Derived.Lib.IndexBytes
import Derived.Test.YtdeppcddknakjaaGreatDoorCK
import Derived.Deep.RegionWith
import Derived.Deep.CutRange
set_option maxRecDepth 100000
set_option linter.unusedVariables false
set_option linter.unusedSimpArgs false
namespace Go.Proofs.YtdeppcddknakjaaGreatDoor.Rx
open Go.RowKit
theorem ret_bool {a b : Bool} (h : a = b) : Ending.returned (.bool a) = .returned (.bool b) := by rw [h]
theorem ret_int {k : IntKind} {a b : Int} (h : a = b) : Ending.returned (.int k a) = .returned (.int k b) := by rw [h]
set_option maxHeartbeats 1000000 in
theorem stringslite_indexByte (s : ByteArray) (c : Nat) (w : World) :
  Calls Tryz.prog 201 #[.string s, .int .u8 (c : Int)] w fun e w' => e = .returned (.int .i64 (Lib.indexByte s.data.toList c.toUInt8)) ∧ w = w' := by
 go_enter Tryz.func201, Tryz.ntmps201
 go_wp2
 rw [run_callFunc_extern Tryz.func209 (by kernel_rfl) (by kernel_rfl) (by kernel_rfl) (e := Extern.BytealgIndexByte.indexByte) (by kernel_rfl), Lib.run_indexByteString]
 simp only [Result.andThen]
 rw [Oper.upon_value]
 go_wp2
 go_ret
 exact ⟨by simp, rfl⟩
theorem indexByte_any (s : ByteArray) (c : Nat) (w : World) :
  Calls Tryz.prog 188 #[.string s, .int .u8 (c : Int)] w fun e w' => e = .returned (.int .i64 (Lib.indexByte s.data.toList c.toUInt8)) ∧ w = w' := by
 go_enter Tryz.func188, Tryz.ntmps188
 go_wp2_with (go_at_call 201; (with_reducible refine (stringslite_indexByte _ _ _).mono ?_); rintro e w' ⟨rfl, rfl⟩)
 go_ret
 exact ⟨rfl, rfl⟩
theorem indexByte_mem (l : List UInt8) (c : UInt8) : decide (0 ≤ Lib.indexByte l c) = l.contains c := by
 rw [Bool.eq_iff_iff, decide_eq_true_iff, List.contains_iff_mem]
 constructor
 ·intro h
  obtain ⟨o, ho⟩ : ∃ o : Nat, Lib.indexByte l c = o := ⟨(Lib.indexByte l c).toNat, by omega⟩
  exact List.mem_of_getElem? (Lib.indexByte_some ho).1
 ·intro h
  have hge := Lib.indexByte_ge l c
  apply Classical.byContradiction
  intro hn
  obtain ⟨k, hk⟩ := List.mem_iff_getElem?.1 h
  exact Lib.indexByte_none (by omega) k hk
/-- One of some bytes is next. -/
def beg (t l : List UInt8) : Bool := match l with
 | [] => false
 | c :: _ => t.contains c
theorem beg_nil (t : List UInt8) {s : ByteArray} (h : s.size = 0) : beg t s.data.toList = false := by
 have h1 : s.data.toList = [] := List.length_eq_zero_iff.1 (by rw [Array.length_toList]; exact h)
 rw [h1]; rfl
theorem data_cons {s : ByteArray} (h : 0 < s.size) : s.data.toList = s[0] :: (s.extract 1 s.size).data.toList := by
 obtain ⟨⟨l⟩⟩ := s
 cases l with
 | nil => exact absurd h (by decide)
 | cons c r =>
  simp only [ByteArray.data_extract, Array.toList_extract]
  have e : (⟨⟨c :: r⟩⟩ : ByteArray).size = r.length + 1 := rfl
  rw [e]
  simp
  rfl
theorem beg_cons (t : List UInt8) {s : ByteArray} (h : 0 < s.size) : beg t s.data.toList = t.contains s[0] := by rw [data_cons h]; rfl
theorem But.one {ra : Nat} {w w' : World} (h : But (· = ra) w w') (j : Nat) (u : Value) : But (· = ra) w (w'.setCell ⟨ra, j, none⟩ u) := h.setCell (p := ⟨ra, j, none⟩) (fun _ => rfl) u
/-- The reader: what is left, whether it has failed. -/
def Rd (w : World) (ra : Nat) (s : ByteArray) (b : Bool) : Prop := Blk w ra 136 [.string s, .bool b]
theorem Rd.cells {w : World} {ra : Nat} {s : ByteArray} {b : Bool} (h : Rd w ra s b) : w.cell? ⟨ra, 0, none⟩ = some (.string s) ∧ w.cell? ⟨ra, 1, none⟩ = some (.bool b) ∧ w.frozen? ⟨ra, 0, none⟩ = false ∧ w.frozen? ⟨ra, 1, none⟩ = false :=
 ⟨Blk.cell h 0, Blk.cell h 1, Blk.froz h 0, Blk.froz h 1⟩
theorem emp_true {s : ByteArray} (h : s.size = 0) : s.toList.isEmpty = true := by
 rw [ByteArray.toList_eq]
 obtain ⟨⟨l⟩⟩ := s
 cases l with
 | nil => rfl
 | cons c r => exact absurd h (by show ¬ (r.length + 1 = 0); omega)
theorem emp_false {s : ByteArray} (h : 0 < s.size) : s.toList.isEmpty = false := by
 rw [ByteArray.toList_eq]
 obtain ⟨⟨l⟩⟩ := s
 cases l with
 | nil => exact absurd h (by decide)
 | cons c r => rfl
set_option maxHeartbeats 1000000 in
theorem begins_any (ra : Nat) (t s : ByteArray) (b : Bool) (w : World) (hr : Rd w ra s b) :
  Calls Tryz.prog 173 #[.pointer (some ⟨ra, 0, none⟩), .string t] w fun e w' => e = .returned (.bool (beg t.data.toList s.data.toList)) ∧ w = w' := by
 obtain ⟨h1, -, -, -⟩ := hr.cells
 clear hr
 by_cases h0 : s.size = 0
 ·have he := emp_true h0
  have HB := Lib.hid (beg_nil t.data.toList h0)
  clear h0
  go_enter Tryz.func173, Tryz.ntmps173
  go_wp2_with fail
  go_ret
  exact ⟨by rw [HB.out]; rfl, rfl⟩
 ·have h0' : 0 < s.size := by omega
  have he := emp_false h0'
  have HB := Lib.hid (beg_cons t.data.toList h0')
  have hc := s[0].toNat_lt
  have C := Lib.hid (indexByte_any t s[0].toNat w)
  go_enter Tryz.func173, Tryz.ntmps173
  go_wp2_with (go_at_call 188; (with_reducible refine C.out.mono ?_); rintro e w' ⟨rfl, rfl⟩)
  go_ret
  refine ⟨ret_bool ?_, rfl⟩
  rw [HB.out, ← indexByte_mem]
  try simp
set_option maxHeartbeats 1000000 in
theorem fail_any (ra : Nat) (s : ByteArray) (b : Bool) (w : World) (hr : Rd w ra s b) :
  Calls Tryz.prog 190 #[.pointer (some ⟨ra, 0, none⟩)] w fun e w' => e = .returned (.tuple #[]) ∧ Rd w' ra ⟨#[]⟩ true ∧ But (· = ra) w w' ∧ w'.heap.size = w.heap.size := by
 obtain ⟨h1, h2, h3, h4⟩ := hr.cells
 have HR := Lib.hid hr
 clear hr
 go_enter Tryz.func190, Tryz.ntmps190
 go_wp2_with fail
 go_end0
 refine ⟨rfl, ?_, ?_, by simp⟩
 ·exact ((HR.out.set 0 _).set 1 _)
 ·exact ((But.refl _ w).one 0 _).one 1 _
/-- What reading a byte does. -/
def NextPost (ra : Nat) (s : ByteArray) (b : Bool) (w : World) (e : Ending) (w' : World) : Prop :=
 (s.size = 0 → e = .returned (.int .u8 0) ∧ Rd w' ra ⟨#[]⟩ true) ∧ (∀ h : 0 < s.size, e = .returned (.int .u8 (s[0].toNat : Int)) ∧ Rd w' ra (s.extract 1 s.size) b) ∧ But (· = ra) w w' ∧ w'.heap.size = w.heap.size
set_option maxHeartbeats 1000000 in
theorem next_any (ra : Nat) (s : ByteArray) (b : Bool) (hs : s.size ≤ 1000) (w : World) (hr : Rd w ra s b) :
  Calls Tryz.prog 175 #[.pointer (some ⟨ra, 0, none⟩)] w (NextPost ra s b w) := by
 obtain ⟨h1, h2, h3, h4⟩ := hr.cells
 have HR := Lib.hid hr
 clear hr
 by_cases h0 : s.size = 0
 ·have he := emp_true h0
  have H0 := Lib.hid h0
  have C := Lib.hid (fail_any ra s b w HR.out)
  clear h0
  go_enter Tryz.func175, Tryz.ntmps175
  go_wp2_with (go_at_call 190; (with_reducible refine C.out.mono ?_); rintro e w1 ⟨rfl, hR1, hB1, hS1⟩; have HR1 := Lib.hid hR1; have HB1 := Lib.hid hB1; have HS1 := Lib.hid hS1; clear hR1 hB1 hS1)
  go_ret
  exact ⟨fun _ => ⟨rfl, HR1.out⟩, fun h => absurd H0.out (by omega), HB1.out, HS1.out⟩
 ·have h0' : 0 < s.size := by omega
  have he := emp_false h0'
  have hz : ¬ 9223372036854775807 < s.size := by omega
  go_enter Tryz.func175, Tryz.ntmps175
  go_wp2_with fail
  go_ret
  refine ⟨fun h => absurd h h0, fun _ => ⟨rfl, ?_⟩, ?_, by simp⟩
  ·exact HR.out.set 0 _
  ·exact (But.refl _ w).one 0 _
/-- What passing over a byte does. -/
def SkipPost (t : List UInt8) (ra : Nat) (s : ByteArray) (b : Bool) (w : World) (e : Ending) (w' : World) : Prop :=
 (beg t s.data.toList = true → e = .returned (.bool true) ∧ Rd w' ra (s.extract 1 s.size) b) ∧ (beg t s.data.toList = false → e = .returned (.bool false) ∧ Rd w' ra s b) ∧ But (· = ra) w w' ∧ w'.heap.size = w.heap.size
theorem beg_pos {t : List UInt8} {s : ByteArray} (h : beg t s.data.toList = true) : 0 < s.size := by
 rcases Nat.eq_zero_or_pos s.size with h0 | h0
 ·rw [beg_nil t h0] at h; cases h
 ·exact h0
set_option maxHeartbeats 1000000 in
theorem skip_any (t : ByteArray) (ra : Nat) (s : ByteArray) (b : Bool) (hs : s.size ≤ 1000) (w : World) (hr : Rd w ra s b) :
  Calls Tryz.prog 156 #[.pointer (some ⟨ra, 0, none⟩), .string t] w (SkipPost t.data.toList ra s b w) := by
 have C := Lib.hid (begins_any ra t s b w hr)
 have CN := Lib.hid (next_any ra s b hs w hr)
 have HR := Lib.hid hr
 clear hr
 have HP : Hid (beg t.data.toList s.data.toList = true → 0 < s.size) := beg_pos
 have HQ : Hid (∀ v, beg t.data.toList s.data.toList = v → beg t.data.toList s.data.toList = v) := fun _ h => h
 generalize hb : beg t.data.toList s.data.toList = v at C HP HQ
 have HB := Lib.hid hb
 clear hb
 cases v with
 | true =>
  have HP0 := Lib.hid (HP.out rfl)
  clear HP HQ
  go_enter Tryz.func156, Tryz.ntmps156
  go_wp2_with (first
   | (go_at_call 173; (with_reducible refine C.out.mono ?_); rintro e w1 ⟨rfl, rfl⟩)
   | (go_at_call 175; (with_reducible refine CN.out.mono ?_); rintro e w1 ⟨-, hn, hB1, hS1⟩; obtain ⟨rfl, hR1⟩ := hn HP0.out; have HR1 := Lib.hid hR1; have HB1 := Lib.hid hB1; have HS1 := Lib.hid hS1; clear hR1 hB1 hS1 hn))
  go_ret
  exact ⟨fun _ => ⟨rfl, HR1.out⟩, fun h => (by rw [HB.out] at h; cases h), HB1.out, HS1.out⟩
 | false =>
  clear HP HQ
  go_enter Tryz.func156, Tryz.ntmps156
  go_wp2_with (go_at_call 173; (with_reducible refine C.out.mono ?_); rintro e w1 ⟨rfl, rfl⟩)
  go_ret
  exact ⟨fun h => (by rw [HB.out] at h; cases h), fun _ => ⟨rfl, HR.out⟩, But.refl _ _, rfl⟩
end Go.Proofs.YtdeppcddknakjaaGreatDoor.Rx
namespace Go.Proofs.YtdeppcddknakjaaGreatDoor.Rx
open Go.RowKit
/-- A set with the bytes from lo on, below k. -/
def upto (f : UInt8 → Bool) (lo k : Nat) (x : UInt8) : Bool := f x || decide (lo ≤ x.toNat ∧ x.toNat < k)
theorem upto_zero (f : UInt8 → Bool) (lo : Nat) (x : UInt8) : upto f lo lo x = f x := by
 unfold upto
 rw [decide_eq_false (by omega), Bool.or_false]
theorem upto_step (f : UInt8 → Bool) {lo k : Nat} (h : lo ≤ k) (x : UInt8) : (if x.toNat = k then true else upto f lo k x) = upto f lo (k + 1) x := by
 unfold upto
 by_cases hx : x.toNat = k
 ·rw [if_pos hx, decide_eq_true (show lo ≤ x.toNat ∧ x.toNat < k + 1 by omega), Bool.or_true]
 ·rw [if_neg hx]
  congr 1
  rw [Bool.eq_iff_iff, decide_eq_true_iff, decide_eq_true_iff]
  omega
theorem upto_end (f : UInt8 → Bool) {lo hi : UInt8} {k : Nat} (h : k = hi.toNat + 1 ∨ (k = lo.toNat ∧ hi.toNat < k)) (x : UInt8) : upto f lo.toNat k x = addR f lo hi x := by
 unfold upto addR
 congr 1
 rw [Bool.eq_iff_iff, decide_eq_true_iff, decide_eq_true_iff]
 omega
theorem set_front {f : UInt8 → Bool} {tail : List Value} {k : Nat} (hk : k < 256) (b : Bool) : (clsC f ++ tail).set k (.bool b) = clsC (fun x => if x.toNat = k then b else f x) ++ tail := by
 rw [List.set_append, if_pos (by rw [clsC_len]; exact hk), clsC_set f hk b]
theorem front_at {f : UInt8 → Bool} {tail : List Value} {k : Nat} (hk : k < 256) : (clsC f ++ tail)[k]? = some (.bool (f (UInt8.ofNat k))) := by
 rw [List.getElem?_append_left (by rw [clsC_len]; exact hk), clsC_at f hk]
def AddPost (g : Nat) (t : TypeId) (f : UInt8 → Bool) (tail : List Value) (w : World) (e : Ending) (w' : World) : Prop := e = .returned (.tuple #[]) ∧ Blk w' g t (clsC f ++ tail) ∧ But (· = g) w w' ∧ w'.heap.size = w.heap.size
set_option maxHeartbeats 2000000 in
theorem add_any (g : Nat) (t : TypeId) (f : UInt8 → Bool) (tail : List Value) (lo hi : UInt8) (w : World) (hg : Blk w g t (clsC f ++ tail)) :
  Calls Tryz.prog 210 #[.pointer (some ⟨g, 0, none⟩), .int .u8 (lo.toNat : Int), .int .u8 (hi.toNat : Int)] w (AddPost g t (addR f lo hi) tail w) := by
 have G0 : Hid (Blk w g t (clsC (upto f lo.toNat lo.toNat) ++ tail)) := by
  rw [clsC_ext (upto_zero f lo.toNat)]
  exact hg
 have hl := lo.toNat_lt
 have hh := hi.toNat_lt
 clear hg
 go_enter Tryz.func210, Tryz.ntmps210
 go_wp2_with fail
 go_loopw [6] (fun vi wr => ∃ k : Nat, lo.toNat ≤ k ∧ (k ≤ hi.toNat + 1 ∨ k = lo.toNat) ∧ vi = .int .i64 k ∧ Hid (Blk wr g t (clsC (upto f lo.toNat k) ++ tail)) ∧ Hid (But (· = g) w wr) ∧ Hid (wr.heap.size = w.heap.size)) (fun vi _ => 257 - (intOf vi).toNat)
 case atStart => exact ⟨lo.toNat, Nat.le_refl _, .inr rfl, rfl, G0, But.refl _ _, rfl⟩
 case round =>
  clear G0
  obtain ⟨k, hk1, hk2, rfl, HG, HB, HS⟩ := hrel
  by_cases hlt : k ≤ hi.toNat
  ·have h256 : k < 256 := by omega
   have h1 : wr.cell? ⟨g, k, none⟩ = some (.bool (upto f lo.toNat k (UInt8.ofNat k))) := by rw [HG.out.cell]; exact front_at h256
   have h2 := HG.out.froz k
   generalize upto f lo.toNat k (UInt8.ofNat k) = old at h1
   go_wp2_with fail
   go_roundw
   case rel =>
    refine ⟨k + 1, by omega, by omega, by go_num, ?_, HB.out.setCell (p := ⟨g, k, none⟩) (fun _ => rfl) _, ?_⟩
    ·have h3 := HG.out.set k (.bool true)
     rw [set_front h256, clsC_ext (upto_step f hk1)] at h3
     exact h3
    ·show (World.setCell _ _ _).heap.size = _
     rw [World.size_setCell]
     exact HS.out
   case measure => simp [intOf]; omega
  ·go_wp2_with fail
   go_end0
   refine ⟨rfl, ?_, HB.out, HS.out⟩
   rw [← clsC_ext (upto_end f (lo := lo) (hi := hi) (k := k) (by omega))]
   exact HG.out
end Go.Proofs.YtdeppcddknakjaaGreatDoor.Rx
namespace Go.Proofs.YtdeppcddknakjaaGreatDoor.Rx
open Go.RowKit
theorem Blk.drew {w : World} {g : Nat} {t : TypeId} {l : List Value} (h : Blk w g t l) : Blk w.drew g t l := h
/-- The set of the bytes from the first to the second byte of each pair. -/
def pairsF : (UInt8 → Bool) → List UInt8 → UInt8 → Bool
 | f, a :: b :: r => pairsF (addR f a b) r
 | f, _ => f
theorem pairs_step (s : ByteArray) (f : UInt8 → Bool) {k : Nat} (h : k + 1 < s.size) : pairsF f (s.data.toList.drop k) = pairsF (addR f s[k] s[k + 1]) (s.data.toList.drop (k + 2)) := by
 have e1 : s.data.toList.drop k = s[k] :: s.data.toList.drop (k + 1) := by rw [List.drop_eq_getElem_cons (by simpa using (by omega : k < s.size))]; rfl
 have e2 : s.data.toList.drop (k + 1) = s[k + 1] :: s.data.toList.drop (k + 1 + 1) := by rw [List.drop_eq_getElem_cons (by simpa using h)]; rfl
 rw [e1, e2, pairsF]
def AggPost (l : List Value) (w : World) (e : Ending) (w' : World) : Prop := e = .returned (.agg l.toArray) ∧ Below w.heap.size w w'
set_option maxHeartbeats 4000000 in
set_option maxRecDepth 100000 in
theorem ranges_any (s : ByteArray) (hs : s.size ≤ 1000) (hev : s.size % 2 = 0) (w : World) :
  Calls Tryz.prog 204 #[.string s] w (AggPost (clsC (pairsF none_ s.data.toList)) w) := by
 have mixed : Tryz.prog.follows .mixedOrders = true := by kernel_rfl
 have HEV := Lib.hid hev
 clear hev
 have HZ0 := Lib.hid (clsC_len none_)
 obtain ⟨Z, hZ⟩ : ∃ Z, Z = clsC none_ := ⟨_, rfl⟩
 have Z45 : Hid ((Tryz.prog.info? 162).map (·.zero) = some (some (.agg Z.toArray))) := by rw [hZ]; exact zero45
 have HZ := Lib.hid hZ
 clear hZ
 obtain ⟨L, hL⟩ : ∃ L, L = clsC (pairsF none_ s.data.toList) := ⟨_, rfl⟩
 rw [← hL]
 have HL0 := Lib.hid hL
 clear hL
 go_enter Tryz.func204, Tryz.ntmps204
 go_wp2_with (refine wpList_alloc_big rfl 162 rfl Z Z45.out ?_)
 have G0 : Hid (Blk ((w.alloc (.cells Z.toArray 162)).alloc (.cells Z.toArray 162)) w.heap.size 162 Z) := (Blk.new w 162 Z).alloc _
 have G1 : Hid (Blk ((w.alloc (.cells Z.toArray 162)).alloc (.cells Z.toArray 162)) (w.heap.size + 1) 162 Z) := by
  have h := Blk.new (w.alloc (.cells Z.toArray 162)) 162 Z
  rwa [World.size_alloc] at h
 have B0 : Hid (Below w.heap.size w ((w.alloc (.cells Z.toArray 162)).alloc (.cells Z.toArray 162))) := ((Below.refl _ _).alloc (Nat.le_refl _) _).alloc (by simp) _
 go_loopw [4] (fun vi wr => ∃ (k : Nat) (f : UInt8 → Bool), k ≤ s.size ∧ Hid (k % 2 = 0) ∧ vi = .int .i64 k ∧ Hid (Blk wr w.heap.size 162 Z) ∧ Hid (Blk wr (w.heap.size + 1) 162 (clsC f ++ [])) ∧ Hid (pairsF none_ s.data.toList = pairsF f (s.data.toList.drop k)) ∧ Hid (Below w.heap.size w wr)) (fun vi _ => s.size - (intOf vi).toNat)
 case atStart => exact ⟨0, none_, by omega, rfl, rfl, G0, by rw [← HZ.out, List.append_nil]; exact G1, rfl, B0⟩
 case round =>
  clear G0 G1 B0
  obtain ⟨k, f, hk, hk2, rfl, HG, HF, HP, HB⟩ := hrel
  by_cases hlt : k < s.size
  ·have hlt1 : k + 1 < s.size := by have := hk2.out; have := HEV.out; omega
   have hw : IntKind.i64.wrap ((k : Int) + 1) = (k : Int) + 1 := IntWalk.i64_in _ (by omega)
   have hw0 : (0 : Int) ≤ (k : Int) + 1 := by omega
   have C := Lib.hid (fun wx hx => add_any (w.heap.size + 1) 162 f [] s[k] s[k + 1] wx hx)
   go_wp2_with fail
   go_region_with (go_at_call 210; (with_reducible refine (C.out _ HF.out.drew).mono ?_); rintro e w1 ⟨rfl, hf1, hb1, hs1⟩; have HF1 := Lib.hid hf1; have HB1 := Lib.hid hb1; have HS1 := Lib.hid hs1; clear hf1 hb1 hs1)
   all_goals
    have HZW : Hid (w.heap.size + 1 ≥ w.heap.size ∧ w.heap.size ≤ wr.heap.size) := ⟨by omega, HB.out.size⟩
    go_wp2_with fail
    go_roundw
    case rel =>
     refine ⟨k + 2, addR f s[k] s[k + 1], by omega, by have := hk2.out; show (k + 2) % 2 = 0; omega, by go_num, HG.out.drew.but HB1.out (by omega), HF1.out, ?_, ?_⟩
     ·rw [← pairs_step s f hlt1]
      exact HP.out
     ·exact HB.out.drew.trans (HB1.out.below HZW.out.2 (fun n hn => by omega))
    case measure => simp [intOf]; omega
  ·obtain rfl : k = s.size := by omega
   have HE : Hid (pairsF none_ s.data.toList = f) := by
    rw [HP.out, List.drop_of_length_le (by rw [Array.length_toList]; exact Nat.le_refl _)]
    rfl
   have HC : Hid (wr.rangeAt (w.heap.size + 1) 0 (clsC f)) := HF.out.part rfl
   have HL := Lib.hid (clsC_len f)
   have HO := Lib.hid (clsC_one f)
   have HZL : Hid (Z.length = 256) := by rw [HZ.out]; exact clsC_len none_
   rw [← HE.out, ← HL0.out] at HC HL HO
   have hsz : Hid ((Tryz.prog.info? 162).map (·.size) = some L.length) := by rw [HL.out]; exact size45
   have hze : Hid (Z.length = L.length) := HZL.out.trans HL.out.symm
   go_wp2_with (first
    | (refine wpList_load_mid rfl 162 (.tmp 3) rfl (w.heap.size + 1) 0 rfl L _ HC.out Tryz.underlying162 rfl hsz.out ?_)
    | (refine wpList_store_big rfl 162 (.tmp 2) (.tmp 19) rfl w.heap.size L rfl rfl 162 Z HG.out hsz.out hze.out HO.out ?_))
   refine bodyPost_ret (results_cell_row rfl _ _ w.heap.size 162 L.toArray (0, 0) _ rfl (HG.out.setRow L) Tryz.underlying162 rfl (by simpa using hsz.out)) rfl ⟨rfl, ?_⟩
   exact HB.out.trans (((But.refl (· = w.heap.size) wr).setRow (fun _ => rfl) _).below HB.out.size (fun n hn => by omega))
/-- A literal's factor. -/
theorem lit_f (c x : UInt8) : addR none_ c c x = (x == c) := by
 unfold addR none_
 rw [Bool.false_or, Bool.eq_iff_iff, decide_eq_true_iff, beq_iff_eq]
 exact ⟨fun h => UInt8.toNat_inj.1 (by omega), fun h => by subst h; omega⟩
end Go.Proofs.YtdeppcddknakjaaGreatDoor.Rx
namespace Go.Proofs.YtdeppcddknakjaaGreatDoor.Rx
open Go.RowKit
/-- The cells of a factor's zero value. -/
def Z47 : List Value := facL none_ (.slice none 0 0) false 0 0
theorem Z47_len : Z47.length = 260 := facL_len _ _ _ _ _
theorem zero47' : (Tryz.prog.info? 164).map (·.zero) = some (some (.agg Z47.toArray)) := zero47
def LitPost (c : UInt8) (w : World) (e : Ending) (w' : World) : Prop := e = .returned (.agg (facL (fun x => x == c) (.slice none 0 0) true c 0).toArray) ∧ Hid (Below w.heap.size w w')
set_option maxHeartbeats 2000000 in
set_option maxRecDepth 100000 in
theorem literal_any (c : UInt8) (w : World) : Calls Tryz.prog 206 #[.int .u8 (c.toNat : Int)] w (LitPost c w) := by
 obtain ⟨L1, hL1⟩ : ∃ L1, L1 = clsC none_ ++ [Value.slice none 0 0, Value.bool true, Value.int .u8 c.toNat, Value.int .u8 0] := ⟨_, rfl⟩
 obtain ⟨L2, hL2⟩ : ∃ L2, L2 = facL (fun x => x == c) (.slice none 0 0) true c 0 := ⟨_, rfl⟩
 have BL : Hid (Tryz.prog.built 164 [(2, .bool true), (3, .int .u8 (c.toNat : Int))] = some L1.toArray) := by rw [hL1]; exact built_lit _
 have H1 : Hid (L1.length = 260) := by rw [hL1, List.length_append, clsC_len]; rfl
 have H2 : Hid (L2.length = 260) := by rw [hL2]; exact facL_len _ _ _ _ _
 have O1 : Hid (∀ v ∈ L1, v.oneCell' = true) := by
  rw [hL1]
  have := facL_one none_ (inner := .slice none 0 0) rfl true c 0
  exact this
 have O2 : Hid (∀ v ∈ L2, v.oneCell' = true) := by rw [hL2]; exact facL_one _ rfl _ _ _
 have CA : Hid (∀ g w, Blk w g 164 L1 → Calls Tryz.prog 210 #[.pointer (some ⟨g, 0, none⟩), .int .u8 (c.toNat : Int), .int .u8 (c.toNat : Int)] w fun e w' => e = .returned (.tuple #[]) ∧ Hid (Blk w' g 164 L2) ∧ Hid (But (· = g) w w') ∧ Hid (w'.heap.size = w.heap.size)) := fun g w h => by
  rw [hL1] at h
  refine (add_any g 164 none_ _ c c w h).mono fun e w' h => ⟨h.1, ?_, h.2.2.1, h.2.2.2⟩
  have h2 := h.2.1
  rw [clsC_ext (lit_f c)] at h2
  rw [hL2]
  exact h2
 have ZL := Lib.hid Z47_len
 have ZZ := Lib.hid zero47'
 generalize Z47 = Z at ZL ZZ
 unfold LitPost
 rw [← hL2]
 clear hL1 hL2
 go_enter Tryz.func206, Tryz.ntmps206
 go_wp2_with (first
  | ((with_reducible refine wpList_alloc_abs (o := ⟨some 2, .alloc 164, _, _, _, _⟩) rfl 164 rfl Z ZZ.out ?_); intro g1 w1 e1 k1 b1 s1)
  | ((with_reducible refine wpList_build_abs (o := ⟨_, .build 164 _, _, _, _, _⟩) rfl 164 _ rfl [(2, .bool true), (3, .int .u8 (c.toNat : Int))] ?_ L1 BL.out ?_); (· simp; exact ⟨rfl, rfl⟩))
  | ((with_reducible refine wpList_alloc_abs (o := ⟨some 3, .alloc 164, _, _, _, _⟩) rfl 164 rfl Z ZZ.out ?_); intro g2 w2 e2 k2 b2 s2)
  | ((with_reducible refine wpList_store_abs (o := ⟨_, .store 164 (.tmp 3) (.tmp 5), _, _, _, _⟩) rfl 164 _ _ rfl rfl g2 L1 ?_ ?_ 164 Z k2.out 260 size47 H1.out ZL.out O1.out ?_); (· rfl); (· rfl); intro w3 k3 b3 s3)
  | (go_at_call 210; (with_reducible refine (CA.out _ _ k3.out).mono ?_); rintro e w4 ⟨rfl, k4, b4, s4⟩)
  | ((with_reducible refine wpList_load_abs (o := ⟨_, .load 164 (.tmp 3), _, _, _, _⟩) rfl 164 _ rfl g2 0 ?_ L2 k4.out.range _ Tryz.underlying164 rfl 260 size47 H2.out ?_); (· rfl))
  | ((with_reducible refine wpList_store_abs (o := ⟨_, .store 164 (.tmp 2) (.tmp 10), _, _, _, _⟩) rfl 164 _ _ rfl rfl g1 L2 ?_ ?_ 164 Z (((k1.out.below b2.out k1.out.lt).but b3.out (by have := e2.out; have := k1.out.lt; omega)).but b4.out (by have := e2.out; have := k1.out.lt; omega)) 260 size47 H2.out ZL.out O2.out ?_); (· rfl); (· rfl); intro w5 k5 b5 s5))
 refine bodyPost_ret (results_cell_row rfl _ _ g1 164 L2.toArray (0, 0) _ rfl k5.out Tryz.underlying164 rfl (by simpa [H2.out] using size47)) rfl ⟨rfl, ?_⟩
 have h1 := e1.out
 have h2 := e2.out
 have h3 := s1.out
 have h4 := b2.out.size
 have h5 := b3.out.size
 have h6 := b4.out.size
 exact b1.out.trans ((b2.out.mono (by omega)).trans ((b3.out.below (by omega) (fun n hn => by omega)).trans ((b4.out.below (by omega) (fun n hn => by omega)).trans (b5.out.below (by omega) (fun n hn => by omega)))))
end Go.Proofs.YtdeppcddknakjaaGreatDoor.Rx
namespace Go.Proofs.YtdeppcddknakjaaGreatDoor.Rx
open Go.RowKit
/-- Reading a byte. -/
structure NextRel (l : List UInt8) (b : Bool) (l' : List UInt8) (b' : Bool) (c : UInt8) : Prop where
 nil : l = [] → c = 0 ∧ l' = [] ∧ b' = true
 cons : ∀ d r, l = d :: r → c = d ∧ l' = r ∧ b' = b
theorem NextRel.len {l l' : List UInt8} {b b' : Bool} {c : UInt8} (h : NextRel l b l' b' c) : l'.length ≤ l.length := by
 cases l with
 | nil => rw [(h.nil rfl).2.1]; exact Nat.le_refl _
 | cons d r => rw [(h.cons d r rfl).2.1]; simp
theorem size_len (s : ByteArray) : s.data.toList.length = s.size := Array.length_toList
def NextP (ra : Nat) (s : ByteArray) (b : Bool) (w : World) (e : Ending) (w' : World) : Prop :=
 ∃ (c : UInt8) (s' : ByteArray) (b' : Bool), e = .returned (.int .u8 (c.toNat : Int)) ∧ Hid (Rd w' ra s' b') ∧ Hid (But (· = ra) w w') ∧ Hid (w'.heap.size = w.heap.size) ∧ s'.size ≤ s.size ∧ Hid (NextRel s.data.toList b s'.data.toList b' c)
theorem next_rel (ra : Nat) (s : ByteArray) (b : Bool) (hs : s.size ≤ 1000) (w : World) (hr : Rd w ra s b) : Calls Tryz.prog 175 #[.pointer (some ⟨ra, 0, none⟩)] w (NextP ra s b w) := by
 refine (next_any ra s b hs w hr).mono fun e w' h => ?_
 obtain ⟨h1, h2, h3, h4⟩ := h
 rcases Nat.eq_zero_or_pos s.size with h0 | h0
 ·obtain ⟨h5, h6⟩ := h1 h0
  have hl : s.data.toList = [] := List.length_eq_zero_iff.1 (by rw [size_len]; exact h0)
  refine ⟨0, ⟨#[]⟩, true, h5, h6, h3, h4, Nat.zero_le _, ⟨fun _ => ⟨rfl, rfl, rfl⟩, fun d r e => ?_⟩⟩
  rw [hl] at e; cases e
 ·obtain ⟨h5, h6⟩ := h2 h0
  refine ⟨s[0], s.extract 1 s.size, b, h5, h6, h3, h4, by rw [ByteArray.size_extract]; omega, ⟨fun e => ?_, fun d r e => ?_⟩⟩
  ·rw [data_cons h0] at e; cases e
  ·rw [data_cons h0] at e
   cases e
   exact ⟨rfl, rfl, rfl⟩
def FailP (ra : Nat) (w : World) (e : Ending) (w' : World) : Prop := e = .returned (.tuple #[]) ∧ Hid (Rd w' ra ⟨#[]⟩ true) ∧ Hid (But (· = ra) w w') ∧ Hid (w'.heap.size = w.heap.size)
theorem fail_rel (ra : Nat) (s : ByteArray) (b : Bool) (w : World) (hr : Rd w ra s b) : Calls Tryz.prog 190 #[.pointer (some ⟨ra, 0, none⟩)] w (FailP ra w) := (fail_any ra s b w hr).mono fun _ _ h => h
/-- An escape: behind the backslash. -/
structure EscRel (l l' : List UInt8) (b : Bool) (p : Pe) : Prop where
 ok : b = false → escReAt l = some (reF p, l')
 no : b = true → escReAt l = none ∧ l' = []
 form : (∃ c, p = .byte c .one) ∨ ∃ f, p = .cls f .one
theorem EscRel.of {l l' : List UInt8} {b : Bool} {c : UInt8} {p : Pe} (h : NextRel l false l' b c) (hp : c ≠ 0 ∨ escRe c = some (reF p) → escRe c = some (reF p)) (form : (∃ c, p = .byte c .one) ∨ ∃ f, p = .cls f .one) (h0 : escRe c = some (reF p)) : EscRel l l' b p := by
 refine ⟨fun hb => ?_, fun hb => ?_, form⟩
 ·cases l with
  | nil => rw [(h.nil rfl).2.2] at hb; cases hb
  | cons d r =>
   obtain ⟨rfl, rfl, _⟩ := h.cons d r rfl
   rw [escReAt, h0]
   rfl
 ·cases l with
  | nil => exact ⟨rfl, (h.nil rfl).2.1⟩
  | cons d r => rw [(h.cons d r rfl).2.2] at hb; cases hb
theorem EscRel.bad {l l' : List UInt8} {b : Bool} {c : UInt8} (h : NextRel l false l' b c) (h0 : escRe c = none) : EscRel l [] true (.cls none_ .one) := by
 refine ⟨fun hb => (by cases hb), fun _ => ⟨?_, rfl⟩, .inr ⟨_, rfl⟩⟩
 cases l with
 | nil => rfl
 | cons d r =>
  obtain ⟨rfl, _, _⟩ := h.cons d r rfl
  rw [escReAt, h0]
  rfl
theorem pairs_digit : pairsF none_ [48, 57] = digit := by
 funext x
 simp only [pairsF, addR, none_, digit, Bool.false_or]
 rfl
theorem pairs_alnum : pairsF none_ [65, 90, 97, 122, 48, 57] = alnum := by
 funext x
 simp only [pairsF, addR, none_, alnum, digit, Bool.false_or]
 rw [Bool.eq_iff_iff]
 simp only [Bool.or_eq_true, decide_eq_true_eq, show (65 : UInt8).toNat = 65 from rfl, show (90 : UInt8).toNat = 90 from rfl, show (97 : UInt8).toNat = 97 from rfl, show (122 : UInt8).toNat = 122 from rfl, show (48 : UInt8).toNat = 48 from rfl, show (57 : UInt8).toNat = 57 from rfl]
 omega
theorem pairs_word : pairsF none_ [65, 90, 97, 122, 48, 57, 95, 95] = word := by
 funext x
 simp only [pairsF, addR, none_, word, alnum, digit, Bool.false_or]
 rw [Bool.eq_iff_iff]
 simp only [Bool.or_eq_true, decide_eq_true_eq, beq_iff_eq, show (65 : UInt8).toNat = 65 from rfl, show (90 : UInt8).toNat = 90 from rfl, show (97 : UInt8).toNat = 97 from rfl, show (122 : UInt8).toNat = 122 from rfl, show (48 : UInt8).toNat = 48 from rfl, show (57 : UInt8).toNat = 57 from rfl, show (95 : UInt8).toNat = 95 from rfl]
 have e : x = 95 ↔ x.toNat = 95 := ⟨fun h => by rw [h]; rfl, fun h => UInt8.toNat_inj.1 h⟩
 rw [e]
 omega
theorem pairs_all : pairsF none_ [0, 255] = fun _ => true := by
 funext x
 have := x.toNat_lt
 simp only [pairsF, addR, none_, Bool.false_or, decide_eq_true_eq, show (0 : UInt8).toNat = 0 from rfl, show (255 : UInt8).toNat = 255 from rfl]
 omega
def SetPost (f : UInt8 → Bool) (w : World) (e : Ending) (w' : World) : Prop := e = .returned (.agg (clsC f).toArray) ∧ Hid (Below w.heap.size w w')
theorem ranges_digit (w : World) : Calls Tryz.prog 204 #[.string ⟨#[48, 57]⟩] w (SetPost digit w) := (ranges_any ⟨#[48, 57]⟩ (by decide) (by decide) w).mono fun e w' h => ⟨by rw [← pairs_digit]; exact h.1, h.2⟩
theorem ranges_alnum (w : World) : Calls Tryz.prog 204 #[.string ⟨#[65, 90, 97, 122, 48, 57]⟩] w (SetPost alnum w) := (ranges_any ⟨#[65, 90, 97, 122, 48, 57]⟩ (by decide) (by decide) w).mono fun e w' h => ⟨by rw [← pairs_alnum]; exact h.1, h.2⟩
theorem ranges_word (w : World) : Calls Tryz.prog 204 #[.string ⟨#[65, 90, 97, 122, 48, 57, 95, 95]⟩] w (SetPost word w) := (ranges_any ⟨#[65, 90, 97, 122, 48, 57, 95, 95]⟩ (by decide) (by decide) w).mono fun e w' h => ⟨by rw [← pairs_word]; exact h.1, h.2⟩
theorem ranges_all (w : World) : Calls Tryz.prog 204 #[.string ⟨#[0, 255]⟩] w (SetPost (fun _ => true) w) := (ranges_any ⟨#[0, 255]⟩ (by decide) (by decide) w).mono fun e w' h => ⟨by rw [← pairs_all]; exact h.1, h.2⟩
theorem idx45 (f : UInt8 → Bool) (c : UInt8) (w : World) : (Instr.index 162 (.agg (clsC f).toArray) (.int .u8 (c.toNat : Int))).run Tryz.prog w = .ok (.bool (f c)) w := by
 have hlt := c.toNat_lt
 have hn : 0 ≤ (c.toNat : Int) ∧ (c.toNat : Int) < ((256 : Nat) : Int) := by omega
 have hs : (sizeOf 4).run Tryz.prog w = .ok 1 w := by kernel_rfl
 have hg : (isAgg 4).run Tryz.prog w = .ok false w := by kernel_rfl
 have hv : (clsC f).toArray[c.toNat]? = some (.bool (f c)) := by
  rw [List.getElem?_toArray, clsC_at f hlt]
  simp
 have hp : (part 4 (clsC f).toArray (c.toNat * 1)).run Tryz.prog w = .ok (.bool (f c)) w := by
  rw [Nat.mul_one]
  simp [part, hg, hv]
 simp only [Instr.index, asIntOf, run_underlying Tryz.underlying162, Sem.run_bind, Sem.run_pure, Result.andThen_ok]
 rw [if_pos hn]
 simp only [Sem.run_bind, hs, Result.andThen_ok, Int.toNat_natCast, hp]
/-- What an escape leaves. -/
def EscP (ra : Nat) (s : ByteArray) (w : World) (e : Ending) (w' : World) : Prop :=
 ∃ (p : Pe) (C : List Value) (s' : ByteArray) (b' : Bool), e = .returned (.agg C.toArray) ∧ Hid (PeV w' (fun _ => False) C p) ∧ Hid (Rd w' ra s' b') ∧ Hid (But (· = ra) w w') ∧ s'.size ≤ s.size ∧ Hid (EscRel s.data.toList s'.data.toList b' p)
theorem But.add {S : Nat → Prop} {a b c : World} (h : But S a b) (k : Below b.heap.size b c) : But S a c := h.trans (S' := S) (But.of_below k) (fun _ _ h => h)
theorem But.row {S : Nat → Prop} {a b c : World} {g : Nat} (h : But S a b) (k : But (· = g) b c) (hg : g < a.heap.size → S g) : But S a c := h.trans k (fun n hn e => by subst e; exact hg hn)
theorem Rd.but {w w' : World} {ra : Nat} {s : ByteArray} {b : Bool} {S : Nat → Prop} (h : Rd w ra s b) (k : But S w w') (hs : ¬ S ra) : Rd w' ra s b := Blk.but h k hs
theorem Rd.below {w w' : World} {ra : Nat} {s : ByteArray} {b : Bool} (h : Rd w ra s b) (k : Below w.heap.size w w') : Rd w' ra s b := Blk.below h k (Blk.lt h)
theorem Rd.lt {w : World} {ra : Nat} {s : ByteArray} {b : Bool} (h : Rd w ra s b) : ra < w.heap.size := Blk.lt h
theorem esc_byte {c d : UInt8} (h : c ≠ 100) (h2 : c ≠ 119) (he : esc c = some d) : escRe c = some (reF (.byte d .one)) := by unfold escRe; rw [if_neg h, if_neg h2, he]; rfl
end Go.Proofs.YtdeppcddknakjaaGreatDoor.Rx
namespace Go.Proofs.YtdeppcddknakjaaGreatDoor.Rx
open Go.RowKit
set_option maxHeartbeats 4000000 in
set_option maxRecDepth 100000 in
theorem escape_any (ra : Nat) (s : ByteArray) (hs : s.size ≤ 1000) (w : World) (hr : Rd w ra s false) : Calls Tryz.prog 205 #[.pointer (some ⟨ra, 0, none⟩)] w (EscP ra s w) := by
 have ZL := Lib.hid Z47_len
 have ZZ := Lib.hid zero47'
 have BZ : Hid (Tryz.prog.built 164 [] = some Z47.toArray) := built_zero
 have OZ : Hid (∀ v ∈ Z47, v.oneCell' = true) := facL_one _ rfl _ _ _
 have PZ : Hid (∀ w, PeV w (fun _ => False) Z47 (.cls none_ .one)) := fun w => by rw [PeV]; rfl
 generalize Z47 = Z at *
 have KR := Lib.hid hr
 have RL := Lib.hid hr.lt
 clear hr
 go_enter Tryz.func205, Tryz.ntmps205
 go_wp2_with ((with_reducible refine wpList_alloc_abs (o := ⟨some 2, .alloc 164, _, _, _, _⟩) rfl 164 rfl Z ZZ.out ?_); intro g0 w0 e0 k0 b0 s0)
 refine (next_rel ra s false hs _ (KR.out.but (S := fun _ => False) (But.of_below b0.out) (by simp))).mono ?_
 rintro e w1 ⟨c, s1, bb, rfl, R1, b1, z1, hs1, H1⟩
 have k1 : Hid (Blk w1 g0 164 Z) := k0.out.but b1.out (by have := e0.out; have := RL.out; omega)
 have W1 : Hid (But (· = ra) w w1) := (But.of_below b0.out).trans b1.out (fun _ _ h => h)
 have G0 : Hid (ra < g0 ∧ w.heap.size = g0) := ⟨by have := e0.out; have := RL.out; omega, e0.out⟩
 have FIN : Hid (∀ (w2 w3 : World) (s' : ByteArray) (b' : Bool) (L : List Value) (p : Pe), But (· = ra) w w2 → Rd w2 ra s' b' → But (· = g0) w2 w3 → (∀ w, PeV w (fun _ => False) L p) → s'.size ≤ s.size → EscRel s.data.toList s'.data.toList b' p → EscP ra s w (.returned (.agg L.toArray)) w3) :=
  fun w2 w3 s' b' L p hb hR hg hp hs' hrel => ⟨p, L, s', b', rfl, hp _, hR.but hg (by have := G0.out; omega), hb.row hg (fun h => by have := G0.out; omega), hs', hrel⟩
 clear e0 k0 b0 s0 b1 z1 KR
 have hc := c.toNat_lt
 by_cases h110 : c = 110
 ·subst h110
  obtain ⟨L, hL⟩ : ∃ L, L = facL (fun x => x == 10) (.slice none 0 0) true 10 0 := ⟨_, rfl⟩
  have CL : Hid (∀ w, Calls Tryz.prog 206 #[.int .u8 (10 : Int)] w fun e w' => e = .returned (.agg L.toArray) ∧ Hid (Below w.heap.size w w')) := fun w => by rw [hL]; exact literal_any 10 w
  have HL : Hid (L.length = 260) := by rw [hL]; exact facL_len _ _ _ _ _
  have OL : Hid (∀ v ∈ L, v.oneCell' = true) := by rw [hL]; exact facL_one _ rfl _ _ _
  have PL : Hid (∀ w, PeV w (fun _ => False) L (.byte 10 .one)) := fun w => by rw [PeV]; exact hL
  have HR : Hid (EscRel s.data.toList s1.data.toList bb (.byte 10 .one)) := EscRel.of H1.out (fun _ => (by rfl)) (.inl ⟨_, rfl⟩) (by rfl)
  clear hL H1 
  go_wp2_with (first
  | (go_at_call 206; (with_reducible refine (CL.out _).mono ?_); rintro e w2 ⟨rfl, b2⟩)
  | ((with_reducible refine wpList_store_abs (o := ⟨_, .store 164 (.tmp 2) (.tmp 11), _, _, _, _⟩) rfl 164 _ _ rfl rfl g0 L ?_ ?_ 164 Z (k1.out.below b2.out k1.out.lt) 260 size47 HL.out ZL.out OL.out ?_); (· rfl); (· rfl); intro w3 k3 b3 s3))
  refine bodyPost_ret (results_cell_row rfl _ _ g0 164 L.toArray (0, 0) _ rfl k3.out Tryz.underlying164 rfl (by simpa [HL.out] using size47)) rfl ?_
  exact FIN.out w2 w3 s1 bb L _ (W1.out.add b2.out) (R1.out.below b2.out) b3.out PL.out hs1 HR.out
 have t110 : ((c.toNat : Int) == 110) = false := by simp; exact fun h => h110 (UInt8.toNat_inj.1 (by rw [show ((110 : UInt8)).toNat = 110 from rfl]; omega))
 by_cases h116 : c = 116
 ·subst h116
  obtain ⟨L, hL⟩ : ∃ L, L = facL (fun x => x == 9) (.slice none 0 0) true 9 0 := ⟨_, rfl⟩
  have CL : Hid (∀ w, Calls Tryz.prog 206 #[.int .u8 (9 : Int)] w fun e w' => e = .returned (.agg L.toArray) ∧ Hid (Below w.heap.size w w')) := fun w => by rw [hL]; exact literal_any 9 w
  have HL : Hid (L.length = 260) := by rw [hL]; exact facL_len _ _ _ _ _
  have OL : Hid (∀ v ∈ L, v.oneCell' = true) := by rw [hL]; exact facL_one _ rfl _ _ _
  have PL : Hid (∀ w, PeV w (fun _ => False) L (.byte 9 .one)) := fun w => by rw [PeV]; exact hL
  have HR : Hid (EscRel s.data.toList s1.data.toList bb (.byte 9 .one)) := EscRel.of H1.out (fun _ => (by rfl)) (.inl ⟨_, rfl⟩) (by rfl)
  clear hL H1 h110
  go_wp2_with (first
  | (go_at_call 206; (with_reducible refine (CL.out _).mono ?_); rintro e w2 ⟨rfl, b2⟩)
  | ((with_reducible refine wpList_store_abs (o := ⟨_, .store 164 (.tmp 2) (.tmp 15), _, _, _, _⟩) rfl 164 _ _ rfl rfl g0 L ?_ ?_ 164 Z (k1.out.below b2.out k1.out.lt) 260 size47 HL.out ZL.out OL.out ?_); (· rfl); (· rfl); intro w3 k3 b3 s3))
  refine bodyPost_ret (results_cell_row rfl _ _ g0 164 L.toArray (0, 0) _ rfl k3.out Tryz.underlying164 rfl (by simpa [HL.out] using size47)) rfl ?_
  exact FIN.out w2 w3 s1 bb L _ (W1.out.add b2.out) (R1.out.below b2.out) b3.out PL.out hs1 HR.out
 have t116 : ((c.toNat : Int) == 116) = false := by simp; exact fun h => h116 (UInt8.toNat_inj.1 (by rw [show ((116 : UInt8)).toNat = 116 from rfl]; omega))
 by_cases h100 : c = 100
 ·subst h100
  obtain ⟨L, hL⟩ : ∃ L, L = facL digit (.slice none 0 0) false 0 0 := ⟨_, rfl⟩
  have BL : Hid (Tryz.prog.built 164 [(0, .agg (clsC digit).toArray)] = some L.toArray) := by rw [hL]; exact built_cls _
  have HL : Hid (L.length = 260) := by rw [hL]; exact facL_len _ _ _ _ _
  have OL : Hid (∀ v ∈ L, v.oneCell' = true) := by rw [hL]; exact facL_one _ rfl _ _ _
  have PL : Hid (∀ w, PeV w (fun _ => False) L (.cls digit .one)) := fun w => by rw [PeV]; exact hL
  have HR : Hid (EscRel s.data.toList s1.data.toList bb (.cls digit .one)) := EscRel.of H1.out (fun _ => (by rfl)) (.inr ⟨_, rfl⟩) (by rfl)
  have CL := Lib.hid (fun w => ranges_digit w)
  unfold SetPost at CL
  generalize clsC digit = CC at CL BL
  clear hL H1 h110 h116
  go_wp2_with (first
  | (go_at_call 204; (with_reducible refine (CL.out _).mono ?_); rintro e w2 ⟨rfl, b2⟩)
  | ((with_reducible refine wpList_build_abs (o := ⟨_, .build 164 _, _, _, _, _⟩) rfl 164 _ rfl [(0, .agg CC.toArray)] ?_ L BL.out ?_); (· first | (simp; done) | (simp; rfl) | (simp; exact ⟨rfl, rfl⟩)))
  | ((with_reducible refine wpList_store_abs (o := ⟨_, .store 164 (.tmp 2) (.tmp 20), _, _, _, _⟩) rfl 164 _ _ rfl rfl g0 L ?_ ?_ 164 Z (k1.out.below b2.out k1.out.lt) 260 size47 HL.out ZL.out OL.out ?_); (· rfl); (· rfl); intro w3 k3 b3 s3))
  refine bodyPost_ret (results_cell_row rfl _ _ g0 164 L.toArray (0, 0) _ rfl k3.out Tryz.underlying164 rfl (by simpa [HL.out] using size47)) rfl ?_
  exact FIN.out w2 w3 s1 bb L _ (W1.out.add b2.out) (R1.out.below b2.out) b3.out PL.out hs1 HR.out
 have t100 : ((c.toNat : Int) == 100) = false := by simp; exact fun h => h100 (UInt8.toNat_inj.1 (by rw [show ((100 : UInt8)).toNat = 100 from rfl]; omega))
 by_cases h119 : c = 119
 ·subst h119
  obtain ⟨L, hL⟩ : ∃ L, L = facL word (.slice none 0 0) false 0 0 := ⟨_, rfl⟩
  have BL : Hid (Tryz.prog.built 164 [(0, .agg (clsC word).toArray)] = some L.toArray) := by rw [hL]; exact built_cls _
  have HL : Hid (L.length = 260) := by rw [hL]; exact facL_len _ _ _ _ _
  have OL : Hid (∀ v ∈ L, v.oneCell' = true) := by rw [hL]; exact facL_one _ rfl _ _ _
  have PL : Hid (∀ w, PeV w (fun _ => False) L (.cls word .one)) := fun w => by rw [PeV]; exact hL
  have HR : Hid (EscRel s.data.toList s1.data.toList bb (.cls word .one)) := EscRel.of H1.out (fun _ => (by rfl)) (.inr ⟨_, rfl⟩) (by rfl)
  have CL := Lib.hid (fun w => ranges_word w)
  unfold SetPost at CL
  generalize clsC word = CC at CL BL
  clear hL H1 h110 h116 h100
  go_wp2_with (first
  | (go_at_call 204; (with_reducible refine (CL.out _).mono ?_); rintro e w2 ⟨rfl, b2⟩)
  | ((with_reducible refine wpList_build_abs (o := ⟨_, .build 164 _, _, _, _, _⟩) rfl 164 _ rfl [(0, .agg CC.toArray)] ?_ L BL.out ?_); (· first | (simp; done) | (simp; rfl) | (simp; exact ⟨rfl, rfl⟩)))
  | ((with_reducible refine wpList_store_abs (o := ⟨_, .store 164 (.tmp 2) (.tmp 25), _, _, _, _⟩) rfl 164 _ _ rfl rfl g0 L ?_ ?_ 164 Z (k1.out.below b2.out k1.out.lt) 260 size47 HL.out ZL.out OL.out ?_); (· rfl); (· rfl); intro w3 k3 b3 s3))
  refine bodyPost_ret (results_cell_row rfl _ _ g0 164 L.toArray (0, 0) _ rfl k3.out Tryz.underlying164 rfl (by simpa [HL.out] using size47)) rfl ?_
  exact FIN.out w2 w3 s1 bb L _ (W1.out.add b2.out) (R1.out.below b2.out) b3.out PL.out hs1 HR.out
 have t119 : ((c.toNat : Int) == 119) = false := by simp; exact fun h => h119 (UInt8.toNat_inj.1 (by rw [show ((119 : UInt8)).toNat = 119 from rfl]; omega))
 have CA := Lib.hid (fun w => ranges_alnum w)
 have IX := Lib.hid (fun w => idx45 alnum c w)
 unfold SetPost at CA
 generalize clsC alnum = CC at CA IX
 cases ha : alnum c with
 | true =>
  have HR : Hid (EscRel s.data.toList [] true (.cls none_ .one)) := EscRel.bad H1.out (by unfold escRe; rw [if_neg h100, if_neg h119]; unfold esc; rw [if_neg h110, if_neg h116, if_pos ha]; rfl)
  rw [ha] at IX
  have HX := IX.out
  clear ha H1 h110 h116 h100 h119
  go_wp2_with (first
  | (go_at_call 204; (with_reducible refine (CA.out _).mono ?_); rintro e w2 ⟨rfl, b2⟩)
  | (go_at_call 190; (with_reducible refine (fail_rel ra s1 bb _ (R1.out.below b2.out)).mono ?_); rintro e w3 ⟨rfl, R3, b3, s3⟩)
  | ((with_reducible refine wpList_build_abs (o := ⟨_, .build 164 _, _, _, _, _⟩) rfl 164 _ rfl [] ?_ Z BZ.out ?_); (· first | (simp; done) | (simp; rfl) | (simp; exact ⟨rfl, rfl⟩)))
  | ((with_reducible refine wpList_store_abs (o := ⟨_, .store 164 (.tmp 2) (.tmp 32), _, _, _, _⟩) rfl 164 _ _ rfl rfl g0 Z ?_ ?_ 164 Z ((k1.out.below b2.out k1.out.lt).but b3.out (by have := G0.out; omega)) 260 size47 ZL.out ZL.out OZ.out ?_); (· rfl); (· rfl); intro w4 k4 b4 s4))
  refine bodyPost_ret (results_cell_row rfl _ _ g0 164 Z.toArray (0, 0) _ rfl k4.out Tryz.underlying164 rfl (by simpa [ZL.out] using size47)) rfl ?_
  exact FIN.out w3 w4 ⟨#[]⟩ true Z _ ((W1.out.add b2.out).trans b3.out (fun _ _ h => h)) R3.out b4.out PZ.out (Nat.zero_le _) HR.out
 | false =>
  rw [ha] at IX
  have HX := IX.out
  have he : escRe c = some (reF (.byte c .one)) := esc_byte h100 h119 (by unfold esc; rw [if_neg h110, if_neg h116, if_neg (by rw [ha]; decide)])
  clear ha
  obtain ⟨L, hL⟩ : ∃ L, L = facL (fun x => x == c) (.slice none 0 0) true c 0 := ⟨_, rfl⟩
  have CL : Hid (∀ w, Calls Tryz.prog 206 #[.int .u8 (c.toNat : Int)] w fun e w' => e = .returned (.agg L.toArray) ∧ Hid (Below w.heap.size w w')) := fun w => by rw [hL]; exact literal_any c w
  have HL : Hid (L.length = 260) := by rw [hL]; exact facL_len _ _ _ _ _
  have OL : Hid (∀ v ∈ L, v.oneCell' = true) := by rw [hL]; exact facL_one _ rfl _ _ _
  have PL : Hid (∀ w, PeV w (fun _ => False) L (.byte c .one)) := fun w => by rw [PeV]; exact hL
  have HR : Hid (EscRel s.data.toList s1.data.toList bb (.byte c .one)) := EscRel.of H1.out (fun _ => he) (.inl ⟨_, rfl⟩) he
  clear hL H1 h110 h116 h100 h119 he
  go_wp2_with (first
  | (go_at_call 204; (with_reducible refine (CA.out _).mono ?_); rintro e w5 ⟨rfl, b5⟩)
  | (go_at_call 206; (with_reducible refine (CL.out _).mono ?_); rintro e w2 ⟨rfl, b2⟩)
  | ((with_reducible refine wpList_store_abs (o := ⟨_, .store 164 (.tmp 2) (.tmp 7), _, _, _, _⟩) rfl 164 _ _ rfl rfl g0 L ?_ ?_ 164 Z ((k1.out.below b5.out k1.out.lt).below b2.out (k1.out.below b5.out k1.out.lt).lt) 260 size47 HL.out ZL.out OL.out ?_); (· rfl); (· rfl); intro w3 k3 b3 s3))
  refine bodyPost_ret (results_cell_row rfl _ _ g0 164 L.toArray (0, 0) _ rfl k3.out Tryz.underlying164 rfl (by simpa [HL.out] using size47)) rfl ?_
  exact FIN.out w2 w3 s1 bb L _ ((W1.out.add b5.out).add b2.out) ((R1.out.below b5.out).below b2.out) b3.out PL.out hs1 HR.out
end Go.Proofs.YtdeppcddknakjaaGreatDoor.Rx
namespace Go.Proofs.YtdeppcddknakjaaGreatDoor.Rx
open Go.RowKit
theorem reF_byte (c : UInt8) : reF (.byte c .one) = .byte c := by rw [reF, withRep]
theorem reF_cls (f : UInt8 → Bool) : reF (.cls f .one) = .cls f := by rw [reF, withRep]
theorem esc_of_byte {d x : UInt8} (h : escRe d = some (.byte x)) : esc d = some x := by
 unfold escRe at h
 split at h
 ·cases h
 ·split at h
  ·cases h
  ·cases he : esc d with
   | none => rw [he] at h; cases h
   | some y => rw [he] at h; cases h; rfl
theorem esc_of_cls {d : UInt8} {f : UInt8 → Bool} (h : escRe d = some (.cls f)) : esc d = none := by
 unfold escRe at h
 split at h
 ·rename_i hd; subst hd; rfl
 ·split at h
  ·rename_i hd; subst hd; rfl
  ·cases he : esc d with
   | none => rfl
   | some y => rw [he] at h; cases h
theorem esc_of_none {d : UInt8} (h : escRe d = none) : esc d = none := by
 unfold escRe at h
 split at h
 ·cases h
 ·split at h
  ·cases h
  ·cases he : esc d with
   | none => rfl
   | some y => rw [he] at h; cases h
/-- A byte of a class, or an escape for one. -/
structure MemRel (l l' : List UInt8) (b : Bool) (c : UInt8) : Prop where
 ok : b = false → item l = some (c, l')
 no : b = true → item l = none ∧ l' = []
def MemP (ra : Nat) (s : ByteArray) (w : World) (e : Ending) (w' : World) : Prop :=
 ∃ (c : UInt8) (s' : ByteArray) (b' : Bool), e = .returned (.int .u8 (c.toNat : Int)) ∧ Hid (Rd w' ra s' b') ∧ Hid (But (· = ra) w w') ∧ s'.size ≤ s.size ∧ Hid (MemRel s.data.toList s'.data.toList b' c)
theorem beg_one {l : List UInt8} {x : UInt8} (h : beg [x] l = true) : ∃ r, l = x :: r := by
 cases l with
 | nil => cases h
 | cons c r => exact ⟨r, by rw [show c = x by simpa [beg] using h]⟩
theorem beg_one_no {c x : UInt8} {r : List UInt8} (h : beg [x] (c :: r) = false) : c ≠ x := by
 intro e
 subst e
 simp [beg] at h
theorem mem_plain {l l' : List UInt8} {b : Bool} {c : UInt8} (h : NextRel l false l' b c) (h1 : beg [93] l = false) (h2 : c ≠ 92) : MemRel l l' b c := by
 cases l with
 | nil =>
  obtain ⟨rfl, rfl, rfl⟩ := h.nil rfl
  exact ⟨fun hb => (by cases hb), fun _ => ⟨rfl, rfl⟩⟩
 | cons d r =>
  obtain ⟨rfl, rfl, rfl⟩ := h.cons d r rfl
  refine ⟨fun _ => ?_, fun hb => (by cases hb)⟩
  rw [item, if_neg (beg_one_no h1), if_neg h2]
theorem mem_esc {l l' : List UInt8} {b : Bool} (h : NextRel l false l' b 92) : b = false ∧ l = 92 :: l' := by
 cases l with
 | nil => have := (h.nil rfl).1; cases this
 | cons d r =>
  obtain ⟨rfl, rfl, rfl⟩ := h.cons d r rfl
  exact ⟨rfl, rfl⟩
theorem item_esc (l : List UInt8) : item (92 :: l) = escAt l := by rw [item, if_neg (by decide), if_pos rfl]
theorem mem_byte {l r l' : List UInt8} {b : Bool} {c : UInt8} (h : l = 92 :: r) (k : EscRel r l' b (.byte c .one)) : MemRel l l' b c := by
 subst h
 refine ⟨fun hb => ?_, fun hb => ?_⟩
 ·rw [item_esc]
  have h1 := k.ok hb
  rw [reF_byte] at h1
  cases r with
  | nil => cases h1
  | cons d q =>
   rw [escReAt] at h1
   rw [escAt]
   cases he : escRe d with
   | none => rw [he] at h1; cases h1
   | some y =>
    rw [he] at h1
    cases h1
    rw [esc_of_byte he]
    rfl
 ·rw [item_esc]
  obtain ⟨h1, h2⟩ := k.no hb
  refine ⟨?_, h2⟩
  cases r with
  | nil => rfl
  | cons d q =>
   rw [escReAt] at h1
   rw [escAt]
   cases he : escRe d with
   | none => rw [esc_of_none he]; rfl
   | some y => rw [he] at h1; cases h1
theorem mem_cls {l r l' : List UInt8} {b : Bool} {c : UInt8} {f : UInt8 → Bool} (h : l = 92 :: r) (k : EscRel r l' b (.cls f .one)) : MemRel l [] true c := by
 subst h
 refine ⟨fun hb => (by cases hb), fun _ => ⟨?_, rfl⟩⟩
 rw [item_esc]
 cases r with
 | nil => rfl
 | cons d q =>
  rw [escAt]
  cases b with
  | false =>
   have h1 := k.ok rfl
   rw [reF_cls, escReAt] at h1
   cases he : escRe d with
   | none => rw [esc_of_none he]; rfl
   | some y =>
    rw [he] at h1
    cases h1
    rw [esc_of_cls he]
    rfl
  | true =>
   have h1 := (k.no rfl).1
   rw [escReAt] at h1
   cases he : escRe d with
   | none => rw [esc_of_none he]; rfl
   | some y => rw [he] at h1; cases h1
set_option maxHeartbeats 4000000 in
set_option maxRecDepth 100000 in
theorem member_any (ra : Nat) (s : ByteArray) (hs : s.size ≤ 1000) (w : World) (hr : Rd w ra s false) : Calls Tryz.prog 215 #[.pointer (some ⟨ra, 0, none⟩)] w (MemP ra s w) := by
 have ZL := Lib.hid Z47_len
 have ZZ := Lib.hid zero47'
 generalize Z47 = Z at *
 have KR := Lib.hid hr
 have CB := Lib.hid (begins_any ra ⟨#[93]⟩ s false w hr)
 clear hr
 cases hb : beg [93] s.data.toList with
 | true =>
  have CB1 : Hid (Calls Tryz.prog 173 #[.pointer (some ⟨ra, 0, none⟩), .string ⟨#[93]⟩] w fun e w' => e = .returned (.bool true) ∧ w = w') := by rw [← hb]; exact CB.out
  have HR : Hid (MemRel s.data.toList [] true 0) := ⟨fun h => (by cases h), fun _ => ⟨by obtain ⟨r, hl⟩ := beg_one hb; rw [hl, item, if_pos rfl], rfl⟩⟩
  clear hb CB
  go_enter Tryz.func215, Tryz.ntmps215
  go_wp2_with (first
  | (go_at_call 173; (with_reducible refine (CB1.out).mono ?_); rintro e w1 ⟨rfl, rfl⟩)
  | (go_at_call 190; (with_reducible refine (fail_rel ra s false _ KR.out).mono ?_); rintro e w1 ⟨rfl, R1, b1, z1⟩)
  | (go_at_call 175; (with_reducible refine (next_rel ra ⟨#[]⟩ true (by decide) _ R1.out).mono ?_); rintro e w2 ⟨c, s2, bb, rfl, R2, b2, z2, hs2, H2⟩; have H3 := Lib.hid (H2.out.nil rfl); obtain rfl : c = 0 := H3.out.1))
  go_ret
  refine ⟨0, s2, bb, rfl, R2, b1.out.trans b2.out (fun _ _ h => h), Nat.le_trans hs2 (Nat.zero_le _), ?_⟩
  rw [H3.out.2.2, H3.out.2.1]
  exact HR.out
 | false =>
  have CB1 : Hid (Calls Tryz.prog 173 #[.pointer (some ⟨ra, 0, none⟩), .string ⟨#[93]⟩] w fun e w' => e = .returned (.bool false) ∧ w = w') := by rw [← hb]; exact CB.out
  have HB := Lib.hid hb
  clear hb CB
  go_enter Tryz.func215, Tryz.ntmps215
  go_wp2_with (first
  | (go_at_call 173; (with_reducible refine (CB1.out).mono ?_); rintro e w1 ⟨rfl, rfl⟩))
  refine (next_rel ra s false hs _ KR.out).mono ?_
  rintro e w1 ⟨c, s1, bb, rfl, R1, b1, z1, hs1, H1⟩
  have hc := c.toNat_lt
  by_cases h92 : c = 92
  ·subst h92
   obtain ⟨rfl, hl⟩ := mem_esc H1.out
   have HL := Lib.hid hl
   clear hl H1
   go_wp2_with fail
   refine (escape_any ra s1 (by omega) _ R1.out).mono ?_
   rintro e w2 ⟨p, C, s2, b2', rfl, P2, R2, b2, hs2, H2⟩
   have HC := Lib.hid P2.out.len
   rcases H2.out.form with ⟨d, rfl⟩ | ⟨f, rfl⟩
   ·have HF : Hid (C[257]? = some (.bool true) ∧ C[258]? = some (.int .u8 (d.toNat : Int))) := by
     have h := P2.out
     rw [PeV] at h
     rw [h]
     exact ⟨(facL_at _ _ _ _ _).2.1, (facL_at _ _ _ _ _).2.2.1⟩
    have HR := Lib.hid (mem_byte HL.out H2.out)
    clear P2 H2
    go_wp2_with (first
  | ((with_reducible refine wpList_alloc_abs (o := ⟨some 4, .alloc 164, _, _, _, _⟩) rfl 164 rfl Z ZZ.out ?_); intro g3 w3 e3 k3 b3 s3)
  | ((with_reducible refine wpList_store_abs (o := ⟨_, .store 164 (.tmp 4) (.tmp 15), _, _, _, _⟩) rfl 164 _ _ rfl rfl g3 C ?_ ?_ 164 Z k3.out 260 size47 HC.out.1 ZL.out HC.out.2 ?_); (· rfl); (· rfl); intro w4 k4 b4 s4; have c1 : w4.cell? ⟨g3, 257, none⟩ = _ := (k4.out.cell 257).trans HF.out.1; have c2 : w4.cell? ⟨g3, 258, none⟩ = _ := (k4.out.cell 258).trans HF.out.2))
    go_ret
    have h1 := e3.out
    have h2 := R2.out.lt
    have B2 := ((b1.out.trans b2.out (fun _ _ h => h)).add b3.out).row (g := g3) b4.out (fun h => by have := b1.out.size; have := b2.out.size; omega)
    exact ⟨d, s2, b2', rfl, (R2.out.below b3.out).but b4.out (by omega), B2, by omega, HR⟩
   ·have HF : Hid (C[257]? = some (.bool false) ∧ C[258]? = some (.int .u8 ((0 : UInt8).toNat : Int))) := by
     have h := P2.out
     rw [PeV] at h
     rw [h]
     exact ⟨(facL_at _ _ _ _ _).2.1, (facL_at _ _ _ _ _).2.2.1⟩
    have HR := Lib.hid (mem_cls (c := 0) HL.out H2.out)
    clear P2 H2
    go_wp2_with (first
  | ((with_reducible refine wpList_alloc_abs (o := ⟨some 4, .alloc 164, _, _, _, _⟩) rfl 164 rfl Z ZZ.out ?_); intro g3 w3 e3 k3 b3 s3)
  | ((with_reducible refine wpList_store_abs (o := ⟨_, .store 164 (.tmp 4) (.tmp 15), _, _, _, _⟩) rfl 164 _ _ rfl rfl g3 C ?_ ?_ 164 Z k3.out 260 size47 HC.out.1 ZL.out HC.out.2 ?_); (· rfl); (· rfl); intro w4 k4 b4 s4; have c1 : w4.cell? ⟨g3, 257, none⟩ = _ := (k4.out.cell 257).trans HF.out.1; have RD : Hid (Rd w4 ra s2 b2') := (R2.out.below b3.out).but b4.out (by have := e3.out; have := R2.out.lt; omega))
  | (go_at_call 190; (with_reducible refine (fail_rel ra s2 b2' _ RD.out).mono ?_); rintro e w5 ⟨rfl, R5, b5, z5⟩; have c2 : w5.cell? ⟨g3, 258, none⟩ = _ := ((k4.out.but b5.out (by have := e3.out; have := R2.out.lt; omega)).cell 258).trans HF.out.2))
    go_ret
    have h1 := e3.out
    have h2 := R2.out.lt
    have B2 := (((b1.out.trans b2.out (fun _ _ h => h)).add b3.out).row (g := g3) b4.out (fun h => by have := b1.out.size; have := b2.out.size; omega)).trans b5.out (fun _ _ h => h)
    exact ⟨0, ⟨#[]⟩, true, rfl, R5, B2, Nat.zero_le _, HR⟩
  ·have t1 : ((c.toNat : Int) != 92) = true := by
    simp
    exact fun h => h92 (UInt8.toNat_inj.1 (by rw [show (92 : UInt8).toNat = 92 from rfl]; omega))
   have HR := Lib.hid (mem_plain H1.out HB.out h92)
   clear h92 H1
   go_wp2_with fail
   go_ret
   exact ⟨c, s1, bb, rfl, R1, b1, hs1, HR⟩
end Go.Proofs.YtdeppcddknakjaaGreatDoor.Rx
namespace Go.Proofs.YtdeppcddknakjaaGreatDoor.Rx
open Go.RowKit
/-- An item of a class. -/
def NoItem (l : List UInt8) : Prop := item l = none ∨ ∃ lo r, item l = some (lo, r) ∧ (rangeEnd lo r = none ∨ ∃ hi q, rangeEnd lo r = some (hi, q) ∧ hi.toNat < lo.toNat)
structure ItemRel (l l' : List UInt8) (b : Bool) (lo hi : UInt8) : Prop where
 ok : b = false → ∃ r, item l = some (lo, r) ∧ rangeEnd lo r = some (hi, l') ∧ ¬ hi.toNat < lo.toNat
 no : b = true → NoItem l ∧ l' = []
def ItemP (ra : Nat) (s : ByteArray) (w : World) (e : Ending) (w' : World) : Prop :=
 ∃ (lo hi : UInt8) (s' : ByteArray) (b' : Bool), e = .returned (.tuple #[.int .u8 (lo.toNat : Int), .int .u8 (hi.toNat : Int)]) ∧ Hid (Rd w' ra s' b') ∧ Hid (But (· = ra) w w') ∧ s'.size ≤ s.size ∧ Hid (ItemRel s.data.toList s'.data.toList b' lo hi)
theorem item_alone {l l' : List UInt8} {b : Bool} {c : UInt8} (h : MemRel l l' b c) (hn : ∀ d r, l' = 45 :: d :: r → d = 93) : ItemRel l l' b c c := by
 refine ⟨fun hb => ⟨l', h.ok hb, ?_, Nat.lt_irrefl _⟩, fun hb => ⟨.inl (h.no hb).1, (h.no hb).2⟩⟩
 match l', hn with
 | [], _ => rfl
 | [d], _ => rfl
 | d :: e :: r, hn =>
  rw [rangeEnd, if_neg]
  rintro ⟨rfl, h2⟩
  exact h2 (hn e r rfl)
theorem item_range {l r l' : List UInt8} {b : Bool} {c d x : UInt8} (h : item l = some (c, 45 :: d :: r)) (hd : d ≠ 93) (k : MemRel (d :: r) l' b x) (hx : ¬ x.toNat < c.toNat) : ItemRel l l' b c x := by
 have e : rangeEnd c (45 :: d :: r) = item (d :: r) := by rw [rangeEnd, if_pos ⟨rfl, hd⟩]
 exact ⟨fun hb => ⟨_, h, e.trans (k.ok hb), hx⟩, fun hb => ⟨.inr ⟨_, _, h, .inl (e.trans (k.no hb).1)⟩, (k.no hb).2⟩⟩
theorem item_less {l r l' : List UInt8} {b : Bool} {c d x : UInt8} (h : item l = some (c, 45 :: d :: r)) (hd : d ≠ 93) (k : MemRel (d :: r) l' b x) (hx : x.toNat < c.toNat) : ItemRel l [] true c x := by
 have e : rangeEnd c (45 :: d :: r) = item (d :: r) := by rw [rangeEnd, if_pos ⟨rfl, hd⟩]
 refine ⟨fun hb => (by cases hb), fun _ => ⟨.inr ⟨_, _, h, ?_⟩, rfl⟩⟩
 cases b with
 | false => exact .inr ⟨x, l', e.trans (k.ok rfl), hx⟩
 | true => exact .inl (e.trans (k.no rfl).1)
theorem data_cons2 {s : ByteArray} (h : 1 < s.size) : s.data.toList = s[0] :: s[1] :: s.data.toList.drop 2 := by
 have e1 : s.data.toList.drop 0 = s[0] :: s.data.toList.drop 1 := by rw [List.drop_eq_getElem_cons (by simpa using (by omega : 0 < s.size))]; rfl
 have e2 : s.data.toList.drop 1 = s[1] :: s.data.toList.drop 2 := by rw [List.drop_eq_getElem_cons (by simpa using h)]; rfl
 rw [e2] at e1
 exact e1
theorem empty_size {s : ByteArray} (h : s.data.toList = []) : s.size = 0 := by rw [← size_len, h]; rfl
set_option maxHeartbeats 4000000 in
set_option maxRecDepth 100000 in
theorem item_any (ra : Nat) (s : ByteArray) (hs : s.size ≤ 1000) (w : World) (hr : Rd w ra s false) : Calls Tryz.prog 211 #[.pointer (some ⟨ra, 0, none⟩)] w (ItemP ra s w) := by
 have KR := Lib.hid hr
 clear hr
 go_enter Tryz.func211, Tryz.ntmps211
 go_wp2_with fail
 refine (member_any ra s hs _ KR.out).mono ?_
 rintro e w1 ⟨c, s1, bb, rfl, R1, b1, hs1, H1⟩
 have hc := c.toNat_lt
 obtain ⟨h1, h2, -, -⟩ := R1.out.cells
 by_cases hD : ∃ h : 1 < s1.size, s1[0].toNat = 45 ∧ s1[1].toNat ≠ 93
 ·obtain ⟨hlt, h45, h93⟩ := hD
  obtain rfl : bb = false := by
   cases bb with
   | false => rfl
   | true => have := empty_size (H1.out.no rfl).2; omega
  have t1 : ((s1[0].toNat : Int) == 45) = true := by simp; omega
  have t2 : ((s1[1].toNat : Int) != 93) = true := by simp; omega
  have L1 : Hid (item s.data.toList = some (c, (45 : UInt8) :: s1[1] :: s1.data.toList.drop 2)) := by
   have hl := data_cons2 hlt
   rw [show s1[0] = 45 from UInt8.toNat_inj.1 h45] at hl
   have h := H1.out.ok rfl
   rw [hl] at h
   exact h
  have D1 : Hid (s1[1] ≠ 93) := fun h => h93 (by rw [h]; rfl)
  clear h93 h45
  go_wp2_with fail
  refine (next_rel ra s1 false (by omega) _ R1.out).mono ?_
  rintro e w2 ⟨d, s2, b2', rfl, R2, b2, z2, hs2, H2⟩
  have K2 := Lib.hid (H2.out.cons _ _ (data_cons2 hlt))
  obtain ⟨-, l2, rfl⟩ := K2.out
  have L2 := Lib.hid l2
  clear l2 H2 h1 h2 K2
  go_wp2_with fail
  refine (member_any ra s2 (by omega) _ R2.out).mono ?_
  rintro e w3 ⟨x, s3, b3', rfl, R3, b3, hs3, H3⟩
  have hx := x.toNat_lt
  have H3' : Hid (MemRel (s1[1] :: s1.data.toList.drop 2) s3.data.toList b3' x) := by have h := H3.out; rw [L2.out] at h; exact h
  have BB : Hid (But (· = ra) w w3) := (b1.out.trans b2.out (fun _ _ h => h)).trans b3.out (fun _ _ h => h)
  by_cases hlt2 : x.toNat < c.toNat
  ·have HR := Lib.hid (item_less L1.out D1.out H3'.out hlt2)
   go_wp2_with (first
  | (go_at_call 190; (with_reducible refine (fail_rel ra s3 b3' _ R3.out).mono ?_); rintro e w4 ⟨rfl, R4, b4, z4⟩))
   go_ret2
   exact ⟨c, x, ⟨#[]⟩, true, rfl, R4, BB.out.trans b4.out (fun _ _ h => h), Nat.zero_le _, HR⟩
  ·have HR := Lib.hid (item_range L1.out D1.out H3'.out hlt2)
   go_wp2_with fail
   go_ret2
   exact ⟨c, x, s3, b3', rfl, R3, BB, by omega, HR⟩
 ·have HR : Hid (ItemRel s.data.toList s1.data.toList bb c c) := item_alone H1.out fun d r hl => by
   apply Classical.byContradiction
   intro hd
   have hsz : 1 < s1.size := by rw [← size_len, hl]; simp
   rw [data_cons2 hsz] at hl
   injection hl with e1 hl
   injection hl with e2 _
   exact hD ⟨hsz, by rw [e1]; rfl, fun h => hd (by rw [← e2]; exact UInt8.toNat_inj.1 h)⟩
  have hcase : (s1.size ≤ 1) ∨ (1 < s1.size ∧ ∃ h : 1 < s1.size, ((s1[0].toNat : Int) == 45) = false) ∨ (1 < s1.size ∧ ∃ h : 1 < s1.size, ((s1[0].toNat : Int) == 45) = true ∧ ((s1[1].toNat : Int) != 93) = false) := by
   rcases Nat.lt_or_ge 1 s1.size with hlt | hge
   ·by_cases h45 : s1[0].toNat = 45
    ·have h93 : s1[1].toNat = 93 := Classical.byContradiction fun h => hD ⟨hlt, h45, h⟩
     exact .inr (.inr ⟨hlt, hlt, by simp; omega, by simp; omega⟩)
    ·exact .inr (.inl ⟨hlt, hlt, by simp; omega⟩)
   ·exact .inl hge
  clear hD H1
  rcases hcase with hsz | ⟨hsz, hh, t1⟩ | ⟨hsz, hh, t1, t2⟩
  all_goals
   go_wp2_with fail
   go_ret2
   exact ⟨c, c, s1, bb, rfl, R1, b1, hs1, HR⟩
end Go.Proofs.YtdeppcddknakjaaGreatDoor.Rx
