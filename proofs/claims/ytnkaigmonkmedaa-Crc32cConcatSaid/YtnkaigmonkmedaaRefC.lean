/- The contracts of the law's own functions of layer 2: xor, burst. -/
import Derived.Test.YtnkaigmonkmedaaRefA
import Derived.Lib.VarintMem
import Derived.Lib.ConvBytes
import Derived.RangeFuncBox
import Derived.BigRegion
import Derived.StillTailTactics
namespace Go.Proofs.Ytnkaigmonkmedaa
open Go.RowKit

/-- Block g reads as these bytes, and may be written. -/
def RowIs (w : World) (g : Nat) (l : List UInt8) : Prop := ∀ j, j < l.length → w.cell? ⟨g, j, none⟩ = some (.int .u8 ((l[j]?.getD 0).toNat : Int)) ∧ w.frozen? ⟨g, j, none⟩ = false
theorem RowIs.set {w : World} {g : Nat} {l : List UInt8} (h : RowIs w g l) (k : Nat) (hk : k < l.length) (v : UInt8) : RowIs (w.setCell ⟨g, k, none⟩ (.int .u8 (v.toNat : Int))) g (l.set k v) := by
  intro j hj
  rw [List.length_set] at hj
  obtain ⟨h1, h2⟩ := h j hj
  refine ⟨?_, (World.frozen?_setCell _ _ _ _).trans h2⟩
  by_cases e : j = k
  · subst e
    rw [World.cell?_setCell_same _ _ _ h1, List.getElem?_set_self hk]
    rfl
  · rw [World.cell?_setCell_other _ _ _ _ (by simp), h1, List.getElem?_set_ne (Ne.symm e)]
theorem RowIs.drew {w : World} {g : Nat} {l : List UInt8} (h : RowIs w g l) : RowIs w.drew g l := h
/-- '[]byte(s)'. -/
theorem conv_bytes (s : ByteArray) (w : World) : ∃ cap w1, (convert 9 42 (.string s)).run Try.prog w = .ok (.slice (some ⟨w.heap.size, 0, none⟩) s.size cap) w1 ∧ RowIs w1 w.heap.size s.data.toList ∧ Below w.heap.size w w1 ∧ w1.heap.size = w.heap.size + 1 := by
  have hr := Lib.run_convert_string_bytes w 9 42 5 s Try.underlying9 Try.underlying42 Try.underlying5
  refine ⟨_, _, hr, fun j hj => ⟨?_, ?_⟩, ⟨rfl, rfl, rfl, by rw [Lib.bytesWorld_size]; omega, fun k hk => Lib.bytesWorld_at_old w 5 s k hk⟩, Lib.bytesWorld_size w 5 s⟩
  · have hj' : j < s.size := by simpa using hj
    rw [Lib.bytesWorld_cell w 5 s j hj', List.getD_eq_getElem?_getD]
  · have hj' : j < s.size := by simpa using hj
    have hlt : j < (Lib.bytesCells w 5 s).size := by
      simp [Lib.bytesCells]; omega
    simp [World.frozen?, Lib.bytesWorld_at_new]
    omega
/-- 'string(b)'. -/
theorem conv_row {w : World} {g : Nat} {l : List UInt8} (h : RowIs w g l) (n cap : Nat) (hn : l.length = n) : (convert 42 9 (.slice (some ⟨g, 0, none⟩) n cap)).run Try.prog w = .ok (.string ⟨l.toArray⟩) w := by
  subst hn
  refine run_convert_bytes_back w 42 9 5 ⟨g, 0, none⟩ cap l Try.underlying42 Try.underlying5 Try.underlying9 fun j hj => ?_
  have e : (⟨g, 0, none⟩ : Addr).add j = ⟨g, j, none⟩ := by cases j <;> simp [Addr.add]
  rw [e, (h j hj).1, List.getElem?_eq_getElem hj]
  rfl
theorem bits_xor_u8 (a b : UInt8) : bits .xor .u8 (a.toNat : Int) (b.toNat : Int) = (((a ^^^ b).toNat : Nat) : Int) := by
  have ha := a.toNat_lt
  have hb := b.toNat_lt
  have hx : a.toNat ^^^ b.toNat < 2 ^ 8 := Nat.xor_lt_two_pow ha hb
  show IntKind.u8.wrap (((BitVec.ofInt 8 (a.toNat : Int) ^^^ BitVec.ofInt 8 (b.toNat : Int)).toNat : Nat) : Int) = _
  rw [BitVec.toNat_xor, BitVec.ofInt_natCast, BitVec.ofInt_natCast, BitVec.toNat_ofNat, BitVec.toNat_ofNat, Nat.mod_eq_of_lt ha, Nat.mod_eq_of_lt hb, UInt8.toNat_xor]
  exact IntWalk.u8_in _ (by omega)

/-- out, k rounds being over. -/
def xorTo (a b c : List UInt8) : Nat → List UInt8
  | 0 => a
  | k + 1 => (xorTo a b c k).set k ((xorTo a b c k)[k]?.getD 0 ^^^ (b[k]?.getD 0 ^^^ c[k]?.getD 0))
theorem xorTo_length (a b c : List UInt8) (k : Nat) : (xorTo a b c k).length = a.length := by
  induction k with
  | zero => rfl
  | succ k ih => rw [xorTo, List.length_set, ih]

set_option maxHeartbeats 1000000 in
theorem xor_any (a b c : ByteArray) (ha : a.size ≤ 300) (hb : b.size = a.size) (hc : c.size = a.size) (w : World) :
    Calls Try.prog 23 #[.string a, .string b, .string c] w fun e w' => e = .returned (.string ⟨(xorTo a.data.toList b.data.toList c.data.toList a.size).toArray⟩) ∧ Below w.heap.size w w' := by
  obtain ⟨cap, w1, hcv, hrow, hbel, hsz⟩ := conv_bytes a w
  have HR := Lib.hid hrow
  have HB := Lib.hid hbel
  have HS := Lib.hid hsz
  have Hb := Lib.hid hb
  have Hc := Lib.hid hc
  have hb1 : a.size ≤ b.size := by omega
  have hc1 : a.size ≤ c.size := by omega
  have hb2 : b.size ≤ 300 := by omega
  have hc2 : c.size ≤ 300 := by omega
  clear hrow hbel hsz hb hc
  go_enter Try.func23, Try.ntmps23
  go_wp2
  go_loopw [13] (fun vi wr => ∃ (k : Nat), k ≤ a.size ∧ vi = .int .i64 k ∧ RowIs wr w.heap.size (xorTo a.data.toList b.data.toList c.data.toList k) ∧ Below w.heap.size w wr)
    (fun vi _ => a.size - (intOf vi).toNat)
  case atStart => exact ⟨0, Nat.zero_le _, rfl, HR.out, HB.out⟩
  case round =>
    obtain ⟨k, hk, rfl, hrow, hB⟩ := hrel
    have HR2 := Lib.hid hrow
    have HB2 := Lib.hid hB
    clear hrow hB HR HB
    by_cases hlt : k < a.size
    · obtain ⟨hcell, hfro⟩ := HR2.out k (by rw [xorTo_length]; simpa using hlt)
      have HS2 : Hid (xorTo a.data.toList b.data.toList c.data.toList (k + 1) = (xorTo a.data.toList b.data.toList c.data.toList k).set k ((xorTo a.data.toList b.data.toList c.data.toList k)[k]?.getD 0 ^^^ (b.data.toList[k]?.getD 0 ^^^ c.data.toList[k]?.getD 0))) := rfl
      have hlen := xorTo_length a.data.toList b.data.toList c.data.toList k
      generalize xorTo a.data.toList b.data.toList c.data.toList k = L at *
      have HRL := HR2.out
      generalize hy : L[k]?.getD 0 = y at *
      have hkL : k < L.length := by rw [hlen]; simpa using hlt
      have HKL := Lib.hid hkL
      clear hlen hkL hy HRL
      have hlb : k < b.size := by omega
      have hlc : k < c.size := by omega
      have hi1 : (k : Int) < a.size := by omega
      have hi2 : (k : Int) < b.size := by omega
      have hi3 : (k : Int) < c.size := by omega
      have HXb : Hid (b.data.toList[k]?.getD 0 = b[k]) := by
        show b.data.toList[k]?.getD 0 = b[k]
        rw [List.getElem?_eq_getElem (by simpa using hlb)]; rfl
      have HXc : Hid (c.data.toList[k]?.getD 0 = c[k]) := by
        show c.data.toList[k]?.getD 0 = c[k]
        rw [List.getElem?_eq_getElem (by simpa using hlc)]; rfl
      have HX1 := Lib.hid (bits_xor_u8 b[k] c[k])
      have HX2 := Lib.hid (bits_xor_u8 y (b[k] ^^^ c[k]))
      go_wp2
      go_region
      go_wp2
      go_roundw
      case rel =>
        refine ⟨k + 1, by omega, by go_num, ?_, (HB2.out.setCell (Nat.le_refl _) _).drew⟩
        rw [HS2.out, HXb.out, HXc.out, HX1.out, HX2.out]
        exact (HR2.out.set k HKL.out _).drew
      case measure => simp [intOf]; omega
    · obtain rfl : k = a.size := by omega
      have hcv2 := conv_row HR2.out a.size cap (by rw [xorTo_length]; simp)
      generalize hL : xorTo a.data.toList b.data.toList c.data.toList a.size = L at *
      have HL := Lib.hid hL
      clear hL
      go_wp2
      go_ret
      exact ⟨by rw [HL.out]; rfl, HB2.out⟩

theorem xorTo_eq (a b c : List UInt8) : ∀ k, k ≤ a.length → b.length = a.length → c.length = a.length → xorTo a b c k = xor3 (a.take k) (b.take k) (c.take k) ++ a.drop k
  | 0, _, _, _ => by simp [xorTo, xor3]
  | k + 1, hk, hb, hc => by
    have ih := xorTo_eq a b c k (by omega) hb hc
    have hl : ∀ (x y z : List UInt8), y.length = x.length → z.length = x.length → (xor3 x y z).length = x.length := by
      intro x
      induction x with
      | nil => intro y z _ _; rfl
      | cons p x ih2 =>
        intro y z hy hz
        match y, z, hy, hz with
        | q :: y, r :: z, hy, hz => rw [xor3, List.length_cons, List.length_cons, ih2 y z (by simpa using hy) (by simpa using hz)]
    have hs : ∀ (x y z : List UInt8) (p q r : UInt8), y.length = x.length → z.length = x.length → xor3 (x ++ [p]) (y ++ [q]) (z ++ [r]) = xor3 x y z ++ [p ^^^ (q ^^^ r)] := by
      intro x
      induction x with
      | nil =>
        intro y z p q r hy hz
        match y, z, hy, hz with
        | [], [], _, _ => rfl
      | cons s x ih2 =>
        intro y z p q r hy hz
        match y, z, hy, hz with
        | t :: y, u :: z, hy, hz =>
          rw [List.cons_append, List.cons_append, List.cons_append, xor3, xor3, ih2 y z p q r (by simpa using hy) (by simpa using hz), List.cons_append]
    have hka : k < a.length := by omega
    have e1 : (xor3 (a.take k) (b.take k) (c.take k)).length = k := by rw [hl _ _ _ (by simp; omega) (by simp; omega)]; simp; omega
    have e2 : (xorTo a b c k)[k]?.getD 0 = a[k] := by
      rw [ih, List.getElem?_append_right (by omega), e1, Nat.sub_self, List.getElem?_drop, Nat.add_zero, List.getElem?_eq_getElem hka]; rfl
    rw [xorTo, e2, ih, List.set_append_right _ _ (by omega), e1, Nat.sub_self, List.drop_eq_getElem_cons hka, List.set_cons_zero, List.take_succ_eq_append_getElem hka, List.take_succ_eq_append_getElem (show k < b.length by omega),
      List.take_succ_eq_append_getElem (show k < c.length by omega), hs _ _ _ _ _ _ (by simp; omega) (by simp; omega), List.append_assoc, List.getElem?_eq_getElem (show k < b.length by omega), List.getElem?_eq_getElem (show k < c.length by omega)]
    rfl
end Go.Proofs.Ytnkaigmonkmedaa
