/- Checksums, seals, bursts: what the statements of layer 2 come to. -/
import Derived.Test.YtnkaigmonkmedaaMath
namespace Go.Proofs.Ytnkaigmonkmedaa

/-- All ones. -/
def ones : Nat := 4294967295
def inv (r : Nat) : Nat := r ^^^ ones
theorem ones_lt : ones < 4294967296 := by decide
theorem inv_lt {r : Nat} (h : r < 4294967296) : inv r < 4294967296 := xor_lt h ones_lt
theorem inv_inv (r : Nat) : inv (inv r) = r := by unfold inv; rw [Nat.xor_assoc, Nat.xor_self, Nat.xor_zero]
theorem xor_swap (a b c : Nat) : a ^^^ b ^^^ c = a ^^^ c ^^^ b := by rw [Nat.xor_assoc, Nat.xor_comm b, ← Nat.xor_assoc]
theorem xor_left (a b c : Nat) : a ^^^ (b ^^^ c) = b ^^^ (a ^^^ c) := by rw [← Nat.xor_assoc, Nat.xor_comm a, Nat.xor_assoc]
theorem xor_mid (a b : Nat) : a ^^^ b ^^^ b = a := by rw [Nat.xor_assoc, Nat.xor_self, Nat.xor_zero]

def sumC (l : List UInt8) : Nat := inv (feed ones l)
def updC (crc : Nat) (l : List UInt8) : Nat := inv (feed (inv crc) l)
def combC (a b n : Nat) : Nat := shN (8 * n) a ^^^ b
theorem sumC_lt (l : List UInt8) : sumC l < 4294967296 := inv_lt (feed_lt l ones_lt)
theorem updC_lt {crc : Nat} (h : crc < 4294967296) (l : List UInt8) : updC crc l < 4294967296 := inv_lt (feed_lt l (inv_lt h))
theorem combC_lt {a b : Nat} (n : Nat) (ha : a < 4294967296) (hb : b < 4294967296) : combC a b n < 4294967296 := xor_lt (shN_lt _ ha) hb
theorem sumC_nil : sumC [] = 0 := by decide
theorem updC_zero (l : List UInt8) : updC 0 l = sumC l := by unfold updC sumC; rw [show inv 0 = ones from rfl]
theorem sumC_append_upd (l m : List UInt8) : sumC (l ++ m) = updC (sumC l) m := by
  unfold updC sumC; rw [feed_append, inv_inv]
theorem sumC_append_comb (l m : List UInt8) : sumC (l ++ m) = combC (sumC l) (sumC m) m.length := by
  have h : feed (feed ones l) m = feed ones m ^^^ shN (8 * m.length) (feed ones l ^^^ ones) := by
    rw [← feed_xor, Nat.xor_comm (feed ones l), ← Nat.xor_assoc, Nat.xor_self, Nat.zero_xor]
  unfold combC sumC inv
  rw [feed_append, h, Nat.xor_assoc, Nat.xor_comm (feed ones m), Nat.xor_assoc, Nat.xor_comm ones]
theorem combC_assoc (a b c m n : Nat) : combC (combC a b m) c n = combC a (combC b c n) (m + n) := by
  unfold combC
  rw [shN_xor, ← shN_add, Nat.xor_assoc, show 8 * m + 8 * n = 8 * (m + n) by omega]
theorem combC_zero (a b : Nat) : combC a b 0 = a ^^^ b := rfl

/-- An operator that shifts, applied as an array. -/
theorem app_shN (n : Nat) {r : Nat} (h : r < 4294967296) : app (shN n) 32 r = shN n r := by
  rw [app_eq (shN n) (shN_zero n) (shN_xor n), Nat.mod_eq_of_lt (show r < 2 ^ 32 by omega)]

/-- Linearity: three strings of one length. -/
def xor3 : List UInt8 → List UInt8 → List UInt8 → List UInt8
  | a :: l, b :: m, c :: n => (a ^^^ (b ^^^ c)) :: xor3 l m n
  | _, _, _ => []
theorem feed_xor3 : ∀ (l m n : List UInt8) (p q r : Nat), m.length = l.length → n.length = l.length → feed (p ^^^ q ^^^ r) (xor3 l m n) = feed p l ^^^ feed q m ^^^ feed r n
  | [], [], [], _, _, _, _, _ => rfl
  | a :: l, b :: m, c :: n, p, q, r, h1, h2 => by
    rw [xor3, feed_cons, feed_cons, feed_cons, feed_cons, ← feed_xor3 l m n _ _ _ (by simpa using h1) (by simpa using h2), ← shN_xor, ← shN_xor, UInt8.toNat_xor, UInt8.toNat_xor]
    have e : p ^^^ q ^^^ r ^^^ (a.toNat ^^^ (b.toNat ^^^ c.toNat)) = p ^^^ a.toNat ^^^ (q ^^^ b.toNat) ^^^ (r ^^^ c.toNat) := by
      simp only [Nat.xor_assoc, Nat.xor_comm, xor_left]
    rw [e]
  | [], _ :: _, _, _, _, _, h1, _ => by simp at h1
  | [], [], _ :: _, _, _, _, _, h2 => by simp at h2
  | _ :: _, [], _, _, _, _, h1, _ => by simp at h1
  | _ :: _, _ :: _, [], _, _, _, _, h2 => by simp at h2
theorem sumC_xor3 (l m n : List UInt8) (h1 : m.length = l.length) (h2 : n.length = l.length) : sumC (xor3 l m n) = sumC l ^^^ sumC m ^^^ sumC n := by
  have h := feed_xor3 l m n ones ones ones h1 h2
  rw [Nat.xor_self, Nat.zero_xor] at h
  unfold sumC inv
  rw [h]
  have e : feed ones l ^^^ ones ^^^ (feed ones m ^^^ ones) ^^^ (feed ones n ^^^ ones) = feed ones l ^^^ feed ones m ^^^ feed ones n ^^^ (ones ^^^ ones ^^^ ones) := by
    simp only [Nat.xor_assoc, Nat.xor_comm, xor_left]
  rw [e, Nat.xor_self, Nat.zero_xor]

/-- Sealed strings. -/
def sealC (l : List UInt8) : List UInt8 := l ++ le4 (sumC l)
def residue : Nat := shN 32 ones
theorem feed_seal (l : List UInt8) : feed ones (sealC l) = residue := by
  unfold sealC residue
  rw [feed_append, feed_le4 _ _ (sumC_lt l)]
  unfold sumC inv
  rw [← Nat.xor_assoc, Nat.xor_self, Nat.zero_xor]
theorem sumC_seal (l : List UInt8) : sumC (sealC l) = 1214729159 := by
  unfold sumC
  rw [feed_seal]
  decide
theorem sealC_length (l : List UInt8) : (sealC l).length = l.length + 4 := by unfold sealC; rw [List.length_append]; rfl

/-- The number that four bytes make. -/
def val4 (a b c d : UInt8) : Nat := a.toNat + 256 * b.toNat + 65536 * c.toNat + 16777216 * d.toNat
theorem val4_lt (a b c d : UInt8) : val4 a b c d < 4294967296 := by
  have := a.toNat_lt; have := b.toNat_lt; have := c.toNat_lt; have := d.toNat_lt
  unfold val4; omega
theorem u8_of {n : Nat} {a : UInt8} (h : n % 256 = a.toNat) : n.toUInt8 = a := by
  apply UInt8.toNat_inj.1
  rw [toUInt8_toNat, h]
theorem le4_val (a b c d : UInt8) : le4 (val4 a b c d) = [a, b, c, d] := by
  have := a.toNat_lt; have := b.toNat_lt; have := c.toNat_lt; have := d.toNat_lt
  unfold le4
  rw [u8_of (a := a) (by unfold val4; omega), u8_of (a := b) (by unfold val4; omega), u8_of (a := c) (by unfold val4; omega), u8_of (a := d) (by unfold val4; omega)]
theorem le4_inj {x y : Nat} (hx : x < 4294967296) (hy : y < 4294967296) (h : le4 x = le4 y) : x = y := by
  have h2 := congrArg (feed 0) h
  rw [feed_le4 _ _ hx, feed_le4 _ _ hy, Nat.zero_xor, Nat.zero_xor] at h2
  exact shN_inj 32 hx hy h2

/-- A string of four bytes at least is a sealed one just where feeding it leaves the residue. -/
theorem sealed_iff (t m : List UInt8) (hm : m.length = 4) : m = le4 (sumC t) ↔ feed ones (t ++ m) = residue := by
  obtain ⟨a, b, c, d, rfl⟩ : ∃ a b c d, m = [a, b, c, d] := by
    match m, hm with
    | [a, b, c, d], _ => exact ⟨a, b, c, d, rfl⟩
  constructor
  · intro h
    rw [h]
    exact feed_seal t
  · intro h
    rw [← le4_val a b c d, feed_append, feed_le4 _ _ (val4_lt a b c d)] at h
    have h2 := shN_inj 32 (xor_lt (feed_lt t ones_lt) (val4_lt a b c d)) ones_lt h
    have h3 : val4 a b c d = sumC t := by
      have h4 : feed ones t ^^^ (feed ones t ^^^ val4 a b c d) = feed ones t ^^^ ones := by rw [h2]
      rw [← Nat.xor_assoc, Nat.xor_self, Nat.zero_xor] at h4
      exact h4
    rw [← le4_val a b c d, h3]

/-- A bit that is turned. -/
def bitOf (k : Nat) : UInt8 := (2 ^ (k % 8)).toUInt8
theorem bitOf_toNat (k : Nat) : (bitOf k).toNat = 2 ^ (k % 8) := by
  unfold bitOf
  rw [toUInt8_toNat]
  have h : k % 8 < 8 := Nat.mod_lt _ (by decide)
  have : 2 ^ (k % 8) ≤ 2 ^ 7 := Nat.pow_le_pow_right (by decide) (by omega)
  rw [Nat.mod_eq_of_lt (by omega)]
def flip (l : List UInt8) (k : Nat) : List UInt8 := l.set (k / 8) (l.getD (k / 8) 0 ^^^ bitOf k)
theorem flip_length (l : List UInt8) (k : Nat) : (flip l k).length = l.length := by unfold flip; rw [List.length_set]
theorem feed_flips (l : List UInt8) (r k : Nat) (hk : k / 8 < l.length) : feed r (flip l k) = feed r l ^^^ shN (8 * l.length - k) 1 := by
  unfold flip
  rw [List.getD_eq_getElem?_getD, List.getElem?_eq_getElem hk]
  exact feed_flip l r k hk (bitOf k) (bitOf_toNat k)

/-- The bits of a mask below place i are turned, from a bit on. -/
def burstC (l : List UInt8) (mask bit : Nat) : Nat → List UInt8
  | 0 => l
  | i + 1 => if mask / 2 ^ i % 2 = 1 then flip (burstC l mask bit i) (bit + i) else burstC l mask bit i
theorem burstC_length (l : List UInt8) (mask bit i : Nat) : (burstC l mask bit i).length = l.length := by
  induction i with
  | zero => rfl
  | succ i ih =>
    rw [burstC]
    split
    · rw [flip_length, ih]
    · exact ih
theorem feed_burst (l : List UInt8) (r mask bit i : Nat) (h : ∀ j, j < i → mask / 2 ^ j % 2 = 1 → (bit + j) / 8 < l.length) :
    feed r (burstC l mask bit i) = feed r l ^^^ shN (8 * l.length - bit) (mask % 2 ^ i) := by
  induction i with
  | zero => rw [burstC, Nat.pow_zero, Nat.mod_one, shN_zero, Nat.xor_zero]
  | succ i ih =>
    have ih2 := ih (fun j hj => h j (by omega))
    rw [burstC, mod_succ]
    split
    · rename_i h1
      have hk := h i (by omega) h1
      rw [feed_flips _ _ _ (by rw [burstC_length]; exact hk), burstC_length, ih2, shN_xor, shN_two_pow (i := i) (n := 8 * l.length - bit) (by omega), Nat.xor_assoc]
      rw [show 8 * l.length - (bit + i) = 8 * l.length - bit - i by omega]
    · exact ih2
/-- A burst changes the register. -/
theorem burst_differs (l : List UInt8) (r mask bit : Nat) (hm : mask ≠ 0) (hm2 : mask < 4294967296) (h : ∀ j, j < 32 → mask / 2 ^ j % 2 = 1 → (bit + j) / 8 < l.length) :
    feed r (burstC l mask bit 32) ≠ feed r l := by
  intro e
  rw [feed_burst l r mask bit 32 h, Nat.mod_eq_of_lt (show mask < 2 ^ 32 by omega)] at e
  have e2 : shN (8 * l.length - bit) mask = 0 := by
    have := congrArg (feed r l ^^^ ·) e
    simp only [← Nat.xor_assoc, Nat.xor_self, Nat.zero_xor] at this
    exact this
  exact hm (shN_eq_zero _ hm2 e2)

/-- Turning bits one after the other: the parity of the register turns with each. -/
def flips (l : List UInt8) : List Nat → List UInt8
  | [] => l
  | k :: ks => flips (flip l k) ks
theorem flips_length (l : List UInt8) (ks : List Nat) : (flips l ks).length = l.length := by
  induction ks generalizing l with
  | nil => rfl
  | cons k ks ih => rw [flips, ih, flip_length]
theorem flips_snoc (l : List UInt8) (ks : List Nat) (k : Nat) : flips l (ks ++ [k]) = flip (flips l ks) k := by
  induction ks generalizing l with
  | nil => rfl
  | cons a ks ih => rw [List.cons_append, flips, ih]; rfl
theorem par_flips (l : List UInt8) (ks : List Nat) (r : Nat) (h : ∀ k ∈ ks, k / 8 < l.length) : par 32 (feed r (flips l ks)) = (par 32 (feed r l) + ks.length) % 2 := by
  induction ks generalizing l with
  | nil =>
    have := par_lt 32 (feed r l)
    rw [flips, List.length_nil]; omega
  | cons k ks ih =>
    rw [flips, ih (flip l k) (fun j hj => by rw [flip_length]; exact h j (List.mem_cons_of_mem _ hj)), feed_flips l r k (h k (by simp)), par_xor, par_shN _ (by decide), List.length_cons]
    have : par 32 1 = 1 := by decide
    omega
theorem odd_differs (l : List UInt8) (ks : List Nat) (r : Nat) (h : ∀ k ∈ ks, k / 8 < l.length) (ho : ks.length % 2 = 1) : feed r (flips l ks) ≠ feed r l := by
  intro e
  have := par_flips l ks r h
  have h2 := par_lt 32 (feed r l)
  rw [e] at this
  omega
end Go.Proofs.Ytnkaigmonkmedaa
