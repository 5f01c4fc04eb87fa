/- Plain facts on CRC-32C: shifting a register is linear and loses nothing; feeding; bursts; parity; operators as arrays. -/
import Derived.Lib.Varint
namespace Go.Proofs.Ytnkaigmonkmedaa

theorem xor_mod2 (a b : Nat) : (a ^^^ b) % 2 = (a + b) % 2 := by
  have h := @Nat.xor_mod_two_eq_one a b
  have h1 := Nat.mod_two_eq_zero_or_one (a ^^^ b)
  omega
theorem xor_zero_eq {a b : Nat} (h : a ^^^ b = 0) : a = b := by
  have : a ^^^ b ^^^ b = 0 ^^^ b := by rw [h]
  rw [Nat.xor_assoc, Nat.xor_self, Nat.xor_zero, Nat.zero_xor] at this
  exact this

/-- One bit. -/
def sh1 (r : Nat) : Nat := if r % 2 = 1 then r / 2 ^^^ 2197175160 else r / 2

theorem sh1_zero : sh1 0 = 0 := rfl
theorem sh1_xor (a b : Nat) : sh1 (a ^^^ b) = sh1 a ^^^ sh1 b := by
  have hd : (a ^^^ b) / 2 = a / 2 ^^^ b / 2 := Nat.xor_div_two
  have hm : (a ^^^ b) % 2 = (a + b) % 2 := xor_mod2 a b
  unfold sh1
  rw [hd, hm]
  rcases Nat.mod_two_eq_zero_or_one a with ha | ha <;> rcases Nat.mod_two_eq_zero_or_one b with hb | hb
  · rw [if_neg (by omega), if_neg (by omega), if_neg (by omega)]
  · rw [if_pos (by omega), if_neg (by omega), if_pos hb, Nat.xor_assoc]
  · rw [if_pos (by omega), if_pos ha, if_neg (by omega), Nat.xor_assoc, Nat.xor_assoc, Nat.xor_comm (b / 2)]
  · rw [if_neg (by omega), if_pos ha, if_pos hb]
    have : a / 2 ^^^ 2197175160 ^^^ (b / 2 ^^^ 2197175160) = a / 2 ^^^ b / 2 ^^^ (2197175160 ^^^ 2197175160) := by
      rw [Nat.xor_assoc, Nat.xor_comm 2197175160 (b / 2 ^^^ 2197175160), Nat.xor_assoc (b / 2), ← Nat.xor_assoc]
    rw [this, Nat.xor_self, Nat.xor_zero]
theorem sh1_lt {r : Nat} (h : r < 4294967296) : sh1 r < 4294967296 := by
  unfold sh1
  split
  · exact Nat.xor_lt_two_pow (n := 32) (by omega) (by omega)
  · omega
theorem sh1_eq_zero {r : Nat} (h : r < 4294967296) (hz : sh1 r = 0) : r = 0 := by
  unfold sh1 at hz
  split at hz
  · have := xor_zero_eq hz
    omega
  · omega
theorem sh1_double (q : Nat) : sh1 (2 * q) = q := by unfold sh1; rw [if_neg (by omega)]; omega

/-- n bits. -/
def shN : Nat → Nat → Nat
  | 0, r => r
  | n + 1, r => shN n (sh1 r)
theorem shN_zero : ∀ n, shN n 0 = 0
  | 0 => rfl
  | n + 1 => by rw [shN, sh1_zero, shN_zero n]
theorem shN_add (m n r : Nat) : shN (m + n) r = shN n (shN m r) := by
  induction m generalizing r with
  | zero => rw [Nat.zero_add]; rfl
  | succ m ih => rw [Nat.succ_add, shN, ih]; rfl
theorem shN_xor (n a b : Nat) : shN n (a ^^^ b) = shN n a ^^^ shN n b := by
  induction n generalizing a b with
  | zero => rfl
  | succ n ih => rw [shN, sh1_xor, ih]; rfl
theorem shN_lt (n : Nat) {r : Nat} (h : r < 4294967296) : shN n r < 4294967296 := by
  induction n generalizing r with
  | zero => exact h
  | succ n ih => exact ih (sh1_lt h)
theorem shN_eq_zero (n : Nat) {r : Nat} (h : r < 4294967296) (hz : shN n r = 0) : r = 0 := by
  induction n generalizing r with
  | zero => exact hz
  | succ n ih => exact sh1_eq_zero h (ih (sh1_lt h) hz)
theorem shN_inj (n : Nat) {a b : Nat} (ha : a < 4294967296) (hb : b < 4294967296) (h : shN n a = shN n b) : a = b := by
  have : shN n (a ^^^ b) = 0 := by rw [shN_xor, h, Nat.xor_self]
  exact xor_zero_eq (shN_eq_zero n (Nat.xor_lt_two_pow (n := 32) (by omega) (by omega)) this)
theorem shN_pow (j m q : Nat) : shN (j + m) (2 ^ j * q) = shN m q := by
  induction j generalizing q with
  | zero => simp
  | succ j ih =>
    rw [show j + 1 + m = (j + m) + 1 by omega, shN, show 2 ^ (j + 1) * q = 2 * (2 ^ j * q) by rw [Nat.pow_succ]; rw [Nat.mul_comm (2 ^ j) 2, Nat.mul_assoc], sh1_double, ih]
theorem shN_two_pow {i n : Nat} (h : i ≤ n) : shN n (2 ^ i) = shN (n - i) 1 := by
  have := shN_pow i (n - i) 1
  rw [show i + (n - i) = n by omega, Nat.mul_one] at this
  exact this

/-- Feeding. -/
def feed (r : Nat) (l : List UInt8) : Nat := l.foldl (fun r c => shN 8 (r ^^^ c.toNat)) r
theorem feed_nil (r : Nat) : feed r [] = r := rfl
theorem feed_cons (r : Nat) (c : UInt8) (l : List UInt8) : feed r (c :: l) = feed (shN 8 (r ^^^ c.toNat)) l := rfl
theorem feed_append (r : Nat) (l m : List UInt8) : feed r (l ++ m) = feed (feed r l) m := List.foldl_append
theorem u8_lt (c : UInt8) : c.toNat < 4294967296 := Nat.lt_of_lt_of_le c.toNat_lt (by decide)
theorem xor_lt {a b : Nat} (ha : a < 4294967296) (hb : b < 4294967296) : a ^^^ b < 4294967296 := Nat.xor_lt_two_pow (n := 32) (by omega) (by omega)
theorem feed_lt (l : List UInt8) {r : Nat} (h : r < 4294967296) : feed r l < 4294967296 := by
  induction l generalizing r with
  | nil => exact h
  | cons c l ih => exact ih (shN_lt 8 (xor_lt h (u8_lt c)))
/-- What the register was before comes through shifted. -/
theorem feed_xor (l : List UInt8) (r q : Nat) : feed (r ^^^ q) l = feed r l ^^^ shN (8 * l.length) q := by
  induction l generalizing r q with
  | nil => rfl
  | cons c l ih =>
    rw [feed_cons, feed_cons, show r ^^^ q ^^^ c.toNat = (r ^^^ c.toNat) ^^^ q by rw [Nat.xor_assoc, Nat.xor_comm q, ← Nat.xor_assoc], shN_xor, ih, ← shN_add, List.length_cons]
    rw [show 8 + 8 * l.length = 8 * (l.length + 1) by omega]

/-- A byte that is changed changes the register by what its change is shifted to. -/
theorem feed_set (l : List UInt8) (r j : Nat) (v : UInt8) (hj : j < l.length) : feed r (l.set j (l[j] ^^^ v)) = feed r l ^^^ shN (8 * (l.length - j)) v.toNat := by
  induction l generalizing r j with
  | nil => simp at hj
  | cons c l ih =>
    cases j with
    | zero =>
      rw [List.set_cons_zero, feed_cons, feed_cons, List.getElem_cons_zero, UInt8.toNat_xor, ← Nat.xor_assoc, shN_xor, feed_xor, ← shN_add, List.length_cons]
      rw [show 8 + 8 * l.length = 8 * (l.length + 1 - 0) by omega]
    | succ j =>
      rw [List.set_cons_succ, feed_cons, feed_cons, List.getElem_cons_succ, ih _ j (by simpa using hj), List.length_cons]
      rw [show l.length - j = l.length + 1 - (j + 1) by omega]
/-- A bit that is turned. -/
theorem feed_flip (l : List UInt8) (r k : Nat) (hk : k / 8 < l.length) (v : UInt8) (hv : v.toNat = 2 ^ (k % 8)) : feed r (l.set (k / 8) (l[k / 8] ^^^ v)) = feed r l ^^^ shN (8 * l.length - k) 1 := by
  rw [feed_set l r (k / 8) v hk, hv, shN_two_pow (by omega)]
  rw [show 8 * (l.length - k / 8) - k % 8 = 8 * l.length - k by omega]

/-- The four bytes of a number, the least first. -/
def le4 (c : Nat) : List UInt8 := [c.toUInt8, (c / 256).toUInt8, (c / 65536).toUInt8, (c / 16777216).toUInt8]
theorem toUInt8_toNat (c : Nat) : c.toUInt8.toNat = c % 256 := by simp [Nat.toUInt8, UInt8.toNat_ofNat']
theorem split256 (c : Nat) : c = c % 256 ^^^ 2 ^ 8 * (c / 256) := by
  have h : c % 256 < 2 ^ 8 := Nat.mod_lt _ (by decide)
  apply Nat.eq_of_testBit_eq
  intro i
  rw [Nat.testBit_xor, show (256 : Nat) = 2 ^ 8 from rfl, Nat.testBit_mod_two_pow, Nat.testBit_two_pow_mul, Nat.testBit_div_two_pow]
  by_cases hi : i < 8
  · have h8 : ¬ 8 ≤ i := by omega
    simp [hi, h8]
  · have h8 : 8 ≤ i := by omega
    simp [hi, h8]
theorem shN8_split (x c : Nat) : shN 8 (x ^^^ c) = shN 8 (x ^^^ c % 256) ^^^ c / 256 := by
  have h := shN_pow 8 0 (c / 256)
  rw [Nat.add_zero, shN] at h
  rw [shN_xor, shN_xor]
  have e : shN 8 c = shN 8 (c % 256) ^^^ c / 256 := by
    have h2 := congrArg (shN 8) (split256 c)
    rw [shN_xor, h] at h2
    exact h2
  rw [e, Nat.xor_assoc]
theorem feed_le4 (x c : Nat) (hc : c < 4294967296) : feed x (le4 c) = shN 32 (x ^^^ c) := by
  have e1 : c / 256 / 256 = c / 65536 := by rw [Nat.div_div_eq_div_mul]
  have e2 : c / 65536 / 256 = c / 16777216 := by rw [Nat.div_div_eq_div_mul]
  have e3 : c / 16777216 / 256 = 0 := by rw [Nat.div_div_eq_div_mul]; omega
  rw [show (32 : Nat) = 8 + (8 + (8 + 8)) from rfl, shN_add, shN_add, shN_add, shN8_split x c, shN8_split _ (c / 256), e1, shN8_split _ (c / 65536), e2, shN8_split _ (c / 16777216), e3, Nat.xor_zero]
  simp only [le4, feed_cons, feed_nil, toUInt8_toNat]

/-- Whether the number of ones is odd. -/
def par : Nat → Nat → Nat
  | 0, _ => 0
  | k + 1, n => (n % 2 + par k (n / 2)) % 2
theorem par_lt (k n : Nat) : par k n < 2 := by
  cases k with
  | zero => exact Nat.zero_lt_two
  | succ k => exact Nat.mod_lt _ (by decide)
theorem par_xor (k a b : Nat) : par k (a ^^^ b) = (par k a + par k b) % 2 := by
  induction k generalizing a b with
  | zero => rfl
  | succ k ih =>
    have hd : (a ^^^ b) / 2 = a / 2 ^^^ b / 2 := Nat.xor_div_two
    have hm : (a ^^^ b) % 2 = (a + b) % 2 := xor_mod2 a b
    rw [par, par, par, hd, hm, ih]
    omega
theorem par_zero (k : Nat) : par k 0 = 0 := by
  induction k with
  | zero => rfl
  | succ k ih => rw [par, Nat.zero_div, ih]
theorem par_more (k n : Nat) (h : n < 2 ^ k) : par (k + 1) n = par k n := by
  induction k generalizing n with
  | zero =>
    have : n = 0 := by simpa using h
    subst this; rfl
  | succ k ih => rw [par, ih (n / 2) (by rw [Nat.pow_succ] at h; omega), par]
theorem par_sh1 {r : Nat} (h : r < 4294967296) : par 32 (sh1 r) = par 32 r := by
  have h1 : par 32 (r / 2) = par 31 (r / 2) := par_more 31 _ (by omega)
  have h2 : par 32 r = (r % 2 + par 31 (r / 2)) % 2 := rfl
  have h3 : par 32 2197175160 = 1 := by decide
  have h4 := par_lt 31 (r / 2)
  unfold sh1
  split
  · rw [par_xor, h1, h2, h3]; omega
  · rw [h1, h2]; omega
theorem par_shN (n : Nat) {r : Nat} (h : r < 4294967296) : par 32 (shN n r) = par 32 r := by
  induction n generalizing r with
  | zero => rfl
  | succ n ih => rw [shN, ih (sh1_lt h), par_sh1 h]

/-- The xor of what an operator gives for the ones of r below place k. -/
def app (f : Nat → Nat) : Nat → Nat → Nat
  | 0, _ => 0
  | k + 1, r => if r / 2 ^ k % 2 = 1 then app f k r ^^^ f (2 ^ k) else app f k r
theorem mod_succ (r k : Nat) : r % 2 ^ (k + 1) = if r / 2 ^ k % 2 = 1 then r % 2 ^ k ^^^ 2 ^ k else r % 2 ^ k := by
  have h : r % 2 ^ k < 2 ^ k := Nat.mod_lt _ (Nat.two_pow_pos k)
  have e : r % 2 ^ k ^^^ 2 ^ k = r % 2 ^ k + 2 ^ k := by
    apply Nat.eq_of_testBit_eq
    intro i
    rw [Nat.testBit_xor, Nat.add_comm, Nat.testBit_two_pow]
    by_cases hi : k = i
    · subst hi
      rw [Nat.testBit_two_pow_add_eq, Nat.testBit_lt_two_pow h]; simp
    · rcases Nat.lt_or_gt_of_ne hi with hlt | hgt
      · rw [Nat.testBit_lt_two_pow (Nat.lt_of_lt_of_le h (Nat.pow_le_pow_right (by decide) (by omega))), Nat.testBit_lt_two_pow]
        · simp [hi]
        · have : 2 ^ (k + 1) ≤ 2 ^ i := Nat.pow_le_pow_right (by decide) hlt
          rw [Nat.pow_succ] at this; omega
      · rw [Nat.testBit_two_pow_add_gt hgt]; simp [hi]
  rw [Nat.pow_succ, Nat.mod_mul]
  split
  · rename_i h1; rw [h1, e, Nat.mul_one]
  · rename_i h1; rw [show r / 2 ^ k % 2 = 0 by omega, Nat.mul_zero, Nat.add_zero]
/-- An operator that is linear is what the array of its images says. -/
theorem app_eq (f : Nat → Nat) (h0 : f 0 = 0) (hx : ∀ a b, f (a ^^^ b) = f a ^^^ f b) (k r : Nat) : app f k r = f (r % 2 ^ k) := by
  induction k with
  | zero => rw [app, Nat.pow_zero, Nat.mod_one, h0]
  | succ k ih =>
    rw [app, mod_succ, ih]
    split
    · rw [hx]
    · rfl
end Go.Proofs.Ytnkaigmonkmedaa
