/- Plain facts on fractions: valid ones are Lean's own rationals; how sums and products are reduced; numbers of two words. Plain facts on numbers of two words of 60 bits, with a sign. The contracts of the reference of layer 3: gcd, abs, magnitude. The contracts of the reference of layer 3: times. The contracts of the reference of layer 3: less, plus. The contracts of the reference of layer 3: plus as a whole, fits, over. The contracts of the reference of layer 3: fits, over. -/
import Derived.Lib.Varint
import Derived.WalkKit
import Derived.Test.YtffnopdpndpngaaProg
import Derived.WalkSpells
import Derived.WalkLawsBesides
import Derived.Lib.Hide
import Derived.Lib.VarintMem
import Derived.IntWalk
import Derived.KernelRfl
import Derived.BigRegion
import Derived.StillTailTactics
import Derived.Outline
import Derived.Laws.Rows
import Derived.Laws.ResultCell
set_option linter.unusedVariables false
set_option linter.unusedSimpArgs false
namespace Go.Proofs.Ytffnopdpndpngaa.Rat

/-- 2^60. -/
def big : Nat := 1152921504606846976
theorem norm_num' (n : Int) (d : Nat) (h : d ≠ 0) : (Rat.normalize n d h).num = n / ((n.natAbs.gcd d : Nat) : Int) := by rw [Rat.normalize_eq]
theorem norm_den' (n : Int) (d : Nat) (h : d ≠ 0) : (Rat.normalize n d h).den = d / n.natAbs.gcd d := by rw [Rat.normalize_eq]
/-- A valid fraction. -/
def Valid (n : Int) (d : Nat) : Prop := 1 ≤ d ∧ d ≤ big ∧ n.natAbs ≤ big ∧ n.natAbs.gcd d = 1
def toQ (n : Int) (d : Nat) : Rat := mkRat n d
theorem toQ_num {n : Int} {d : Nat} (hd : 1 ≤ d) (hg : n.natAbs.gcd d = 1) : (toQ n d).num = n ∧ (toQ n d).den = d := by
  unfold toQ
  have h0 : d ≠ 0 := by omega
  rw [mkRat, dif_neg h0, norm_num', norm_den', hg]
  exact ⟨by simp, by simp⟩
theorem Valid.num {n : Int} {d : Nat} (h : Valid n d) : (toQ n d).num = n := (toQ_num h.1 h.2.2.2).1
theorem Valid.den {n : Int} {d : Nat} (h : Valid n d) : (toQ n d).den = d := (toQ_num h.1 h.2.2.2).2

def FitsQ (q : Rat) : Prop := q.num.natAbs ≤ big ∧ q.den ≤ big
theorem valid_of_fits {q : Rat} (h : FitsQ q) : Valid q.num q.den := ⟨Nat.pos_of_ne_zero q.den_nz, h.2, h.1, q.reduced⟩
theorem toQ_self (q : Rat) : toQ q.num q.den = q := by
  obtain ⟨h1, h2⟩ := toQ_num (Nat.pos_of_ne_zero q.den_nz) q.reduced
  exact Rat.ext h1 h2
theorem Valid.fits {n : Int} {d : Nat} (h : Valid n d) : FitsQ (toQ n d) := by
  unfold FitsQ; rw [h.num, h.den]; exact ⟨h.2.2.1, h.2.1⟩
theorem toQ_inj {n n' : Int} {d d' : Nat} (h : Valid n d) (h' : Valid n' d') (e : toQ n d = toQ n' d') : n = n' ∧ d = d' :=
  ⟨by rw [← h.num, ← h'.num, e], by rw [← h.den, ← h'.den, e]⟩

/-- A sum, as it is reduced. -/
theorem add_alg (a b : Rat) (g t : Nat) (num : Int) (hg : g = a.den.gcd b.den) (hn : num = a.num * ((b.den / g : Nat) : Int) + b.num * ((a.den / g : Nat) : Int)) (ht : t = g.gcd num.natAbs) :
    (a + b).num = num / t ∧ (a + b).den = a.den / g * (b.den / t) := by
  have hg0 : 0 < g := by rw [hg]; exact Nat.gcd_pos_of_pos_left _ (Nat.pos_of_ne_zero a.den_nz)
  have ht0 : 0 < t := by rw [ht]; exact Nat.gcd_pos_of_pos_left _ hg0
  have htg : t ∣ g := by rw [ht]; exact Nat.gcd_dvd_left _ _
  have hgb : g ∣ b.den := by rw [hg]; exact Nat.gcd_dvd_right _ _
  have hga : g ∣ a.den := by rw [hg]; exact Nat.gcd_dvd_left _ _
  have htb : t ∣ b.den := Nat.dvd_trans htg hgb
  have aux : num.natAbs.gcd g = num.natAbs.gcd (a.den / g * b.den) := by
    have h := Rat.add.aux a b (g := g) (ad := a.den / g) (bd := b.den / g) hg rfl rfl
    simp only at h
    rw [hn]
    exact h
  have htn : t = num.natAbs.gcd (a.den / g * b.den) := by rw [ht, Nat.gcd_comm, aux]
  have hden : a.den / g * (b.den / t) = a.den / g * b.den / t := (Nat.mul_div_assoc _ htb).symm
  have hd0 : a.den / g * b.den ≠ 0 := Nat.mul_ne_zero (Nat.ne_of_gt (Nat.div_pos (Nat.le_of_dvd (Nat.pos_of_ne_zero a.den_nz) hga) hg0)) b.den_nz
  have hadd : a + b = Rat.normalize num (a.den / g * b.den) hd0 := by
    rw [Rat.add_def]
    rw [Rat.normalize_eq_iff]
    obtain ⟨ad, ha⟩ := hga
    obtain ⟨bd, hb⟩ := hgb
    have e1 : a.den / g = ad := by rw [ha]; exact Nat.mul_div_cancel_left _ hg0
    have e2 : b.den / g = bd := by rw [hb]; exact Nat.mul_div_cancel_left _ hg0
    rw [hn, e1, e2, ha, hb]
    push_cast
    simp only [Int.add_mul]
    congr 1 <;> simp only [Int.mul_assoc, Int.mul_comm, Int.mul_left_comm]
  rw [hadd, norm_num', norm_den', ← htn, hden]
  exact ⟨rfl, rfl⟩

/-- A product, as it is reduced. -/
theorem mul_alg (a b : Rat) (g h : Nat) (hg : g = a.num.natAbs.gcd b.den) (hh : h = b.num.natAbs.gcd a.den) :
    (a * b).num = a.num / g * (b.num / h) ∧ (a * b).den = a.den / h * (b.den / g) := by
  subst hg hh
  have e : a * b = Rat.mul a b := rfl
  rw [e]
  unfold Rat.mul
  dsimp only
  exact ⟨by simp only [Int.divExact_eq_ediv], by simp only [Nat.divExact_eq_div]⟩

/-- A product of two numbers, by halves. -/
theorem halves (P X Y : Nat) (hP : 0 < P) :
    X / P * (Y / P) + (X / P * (Y % P) + X % P * (Y / P)) / P + (X % P * (Y % P) + (X / P * (Y % P) + X % P * (Y / P)) % P * P) / (P * P) = X * Y / (P * P) ∧
    (X % P * (Y % P) + (X / P * (Y % P) + X % P * (Y / P)) % P * P) % (P * P) = X * Y % (P * P) := by
  have hX := Nat.div_add_mod X P
  have hY := Nat.div_add_mod Y P
  generalize X / P = a at *
  generalize X % P = b at *
  generalize Y / P = c at *
  generalize Y % P = d at *
  have hC := Nat.div_add_mod (a * d + b * c) P
  generalize (a * d + b * c) / P = q at *
  generalize (a * d + b * c) % P = r at *
  have hXY : X * Y = P * P * (a * c + q) + (b * d + r * P) := by
    rw [← hX, ← hY]
    have h1 : (P * a + b) * (P * c + d) = P * P * (a * c) + P * (a * d + b * c) + b * d := by
      simp only [Nat.add_mul, Nat.mul_add]
      simp only [Nat.mul_assoc, Nat.mul_comm, Nat.mul_left_comm]
      omega
    rw [h1, ← hC]
    simp only [Nat.mul_add]
    simp only [Nat.mul_assoc, Nat.mul_comm, Nat.mul_left_comm]
    omega
  have hPP : 0 < P * P := Nat.mul_pos hP hP
  rw [hXY, Nat.mul_add_div hPP, Nat.mul_add_mod]
  exact ⟨by omega, rfl⟩
end Go.Proofs.Ytffnopdpndpngaa.Rat
namespace Go.Proofs.Ytffnopdpndpngaa.Rat

theorem sign_pos' {z : Int} (h : 0 < z) : z.sign = 1 := Int.sign_eq_one_of_pos h
theorem sign_neg' {z : Int} (h : z < 0) : z.sign = -1 := Int.sign_eq_neg_one_of_neg h

/-- The words of a product of numbers below 2^60, by halves of 30 bits. -/
theorem prod_words (X Y : Nat) :
    X / 1073741824 * (Y / 1073741824) + (X / 1073741824 * (Y % 1073741824) + X % 1073741824 * (Y / 1073741824)) / 1073741824 + (X % 1073741824 * (Y % 1073741824) + (X / 1073741824 * (Y % 1073741824) + X % 1073741824 * (Y / 1073741824)) % 1073741824 * 1073741824) / 1152921504606846976 = X * Y / 1152921504606846976 ∧
    (X % 1073741824 * (Y % 1073741824) + (X / 1073741824 * (Y % 1073741824) + X % 1073741824 * (Y / 1073741824)) % 1073741824 * 1073741824) % 1152921504606846976 = X * Y % 1152921504606846976 :=
  halves 1073741824 X Y (by omega)

/-- A remainder while a number is divided bit by bit from the highest on. -/
theorem div_step (A n i : Nat) (hn : 0 < n) : A / 2 ^ i % n = (2 * (A / 2 ^ (i + 1) % n) + A / 2 ^ i % 2) % n := by
  have h : A / 2 ^ (i + 1) = A / 2 ^ i / 2 := by rw [Nat.pow_succ, Nat.div_div_eq_div_mul]
  rw [h]
  generalize A / 2 ^ i = B
  have h2 : B = 2 * (B / 2) + B % 2 := by omega
  conv => lhs; rw [h2]
  rw [Nat.add_mod, Nat.mul_mod, Nat.add_mod (2 * (B / 2 % n)), Nat.mul_mod 2 (B / 2 % n), Nat.mod_mod]
theorem div_step_q (A n i : Nat) (hn : 0 < n) : A / 2 ^ i / n = 2 * (A / 2 ^ (i + 1) / n) + (2 * (A / 2 ^ (i + 1) % n) + A / 2 ^ i % 2) / n := by
  have h : A / 2 ^ (i + 1) = A / 2 ^ i / 2 := by rw [Nat.pow_succ, Nat.div_div_eq_div_mul]
  rw [h]
  generalize A / 2 ^ i = B
  have h2 : B = n * (2 * (B / 2 / n)) + (2 * (B / 2 % n) + B % 2) := by
    have h3 := Nat.div_add_mod (B / 2) n
    have h4 : B = 2 * (B / 2) + B % 2 := by omega
    have h5 : n * (2 * (B / 2 / n)) = 2 * (n * (B / 2 / n)) := by rw [← Nat.mul_assoc, Nat.mul_comm n 2, Nat.mul_assoc]
    omega
  conv => lhs; rw [h2]
  rw [Nat.mul_add_div hn]

theorem words_cast (p q X Y : Nat) :
    (X : Int) / p * ((Y : Int) / p) + ((X : Int) / p * ((Y : Int) % p) + (X : Int) % p * ((Y : Int) / p)) / p + ((X : Int) % p * ((Y : Int) % p) + ((X : Int) / p * ((Y : Int) % p) + (X : Int) % p * ((Y : Int) / p)) % p * p) / q =
      ((X / p * (Y / p) + (X / p * (Y % p) + X % p * (Y / p)) / p + (X % p * (Y % p) + (X / p * (Y % p) + X % p * (Y / p)) % p * p) / q : Nat) : Int) ∧
    ((X : Int) % p * ((Y : Int) % p) + ((X : Int) / p * ((Y : Int) % p) + (X : Int) % p * ((Y : Int) / p)) % p * p) % q =
      (((X % p * (Y % p) + (X / p * (Y % p) + X % p * (Y / p)) % p * p) % q : Nat) : Int) := by
  constructor <;> push_cast <;> rfl
/-- The same, as the walk spells it. -/
theorem prod_int (X Y : Nat) :
    (X : Int) / 1073741824 * ((Y : Int) / 1073741824) + ((X : Int) / 1073741824 * ((Y : Int) % 1073741824) + (X : Int) % 1073741824 * ((Y : Int) / 1073741824)) / 1073741824 + ((X : Int) % 1073741824 * ((Y : Int) % 1073741824) + ((X : Int) / 1073741824 * ((Y : Int) % 1073741824) + (X : Int) % 1073741824 * ((Y : Int) / 1073741824)) % 1073741824 * 1073741824) / 1152921504606846976 = ((X * Y / 1152921504606846976 : Nat) : Int) ∧
    ((X : Int) % 1073741824 * ((Y : Int) % 1073741824) + ((X : Int) / 1073741824 * ((Y : Int) % 1073741824) + (X : Int) % 1073741824 * ((Y : Int) / 1073741824)) % 1073741824 * 1073741824) % 1152921504606846976 = ((X * Y % 1152921504606846976 : Nat) : Int) := by
  obtain ⟨h1, h2⟩ := prod_words X Y
  rw [← h1, ← h2]
  exact words_cast 1073741824 1152921504606846976 X Y
theorem mul_bound {a b m n : Nat} (ha : a ≤ m) (hb : b ≤ n) : (0 : Int) ≤ (a : Int) * (b : Int) ∧ (a : Int) * (b : Int) ≤ ((m * n : Nat) : Int) := by
  have h := Nat.mul_le_mul ha hb
  have e : (a : Int) * (b : Int) = ((a * b : Nat) : Int) := by simp
  rw [e]
  omega
theorem prod_bounds (X Y : Nat) (hX : X ≤ 1152921504606846976) (hY : Y ≤ 1152921504606846976) :
    ((0 : Int) ≤ (X : Int) / 1073741824 * ((Y : Int) / 1073741824) ∧ (X : Int) / 1073741824 * ((Y : Int) / 1073741824) ≤ 1152921504606846976) ∧
    ((0 : Int) ≤ (X : Int) / 1073741824 * ((Y : Int) % 1073741824) ∧ (X : Int) / 1073741824 * ((Y : Int) % 1073741824) ≤ 1152921504606846976) ∧
    ((0 : Int) ≤ (X : Int) % 1073741824 * ((Y : Int) / 1073741824) ∧ (X : Int) % 1073741824 * ((Y : Int) / 1073741824) ≤ 1152921504606846976) ∧
    ((0 : Int) ≤ (X : Int) % 1073741824 * ((Y : Int) % 1073741824) ∧ (X : Int) % 1073741824 * ((Y : Int) % 1073741824) ≤ 1152921504606846976) := by
  have d1 : (X : Int) / 1073741824 = ((X / 1073741824 : Nat) : Int) := by simp
  have d2 : (Y : Int) / 1073741824 = ((Y / 1073741824 : Nat) : Int) := by simp
  have m1 : (X : Int) % 1073741824 = ((X % 1073741824 : Nat) : Int) := by simp
  have m2 : (Y : Int) % 1073741824 = ((Y % 1073741824 : Nat) : Int) := by simp
  rw [d1, d2, m1, m2]
  have b1 : X / 1073741824 ≤ 1073741824 := by omega
  have b2 : Y / 1073741824 ≤ 1073741824 := by omega
  have b3 : X % 1073741824 ≤ 1073741824 := by omega
  have b4 : Y % 1073741824 ≤ 1073741824 := by omega
  exact ⟨mul_bound b1 b2, mul_bound b1 b4, mul_bound b3 b2, mul_bound b3 b4⟩

/-- A number of two words of 60 bits, with its sign, as a value. -/
def wid (z : Int) : Value := .agg #[.int .i64 z.sign, .int .i64 ((z.natAbs / 1152921504606846976 : Nat) : Int), .int .i64 ((z.natAbs % 1152921504606846976 : Nat) : Int)]
end Go.Proofs.Ytffnopdpndpngaa.Rat
namespace Go.Proofs.Ytffnopdpndpngaa.Rat
open Go.RowKit

set_option maxHeartbeats 400000 in
theorem abs_any (z : Int) (h1 : -9223372036854775807 ≤ z) (h2 : z ≤ 9223372036854775807) (w : World) :
    Calls Try.prog 77 #[.int .i64 z] w fun e w' => e = .returned (.int .i64 (z.natAbs : Nat)) ∧ w = w' := by
  by_cases h : z < 0
  · have e : ((z.natAbs : Nat) : Int) = -z := by omega
    rw [e]
    go_enter Try.func77, Try.ntmps77
    go_wp2
    go_ret
    exact ⟨rfl, rfl⟩
  · have e : ((z.natAbs : Nat) : Int) = z := by omega
    rw [e]
    go_enter Try.func77, Try.ntmps77
    go_wp2
    go_ret
    exact ⟨rfl, rfl⟩


set_option maxHeartbeats 400000 in
theorem gcd_draws (a b : Nat) (ha : a < 9223372036854775808) (hb : b < 9223372036854775808) (w : World) :
    Calls Try.prog 76 #[.int .i64 a, .int .i64 b] w fun e w' => e = .returned (.int .i64 (Nat.gcd a b : Nat)) ∧ ∃ m, w' = w.drewN m := by
  go_enter Try.func76, Try.ntmps76
  go_wp2
  go_loopw [0, 1] (fun va vb wr => ∃ x y : Nat, va = .int .i64 x ∧ vb = .int .i64 y ∧ x < 9223372036854775808 ∧ y < 9223372036854775808 ∧ Hid (Nat.gcd a b = Nat.gcd x y) ∧ Hid (∃ m, wr = w.drewN m)) (fun _ vb _ => (intOf vb).toNat)
  case atStart => exact ⟨a, b, rfl, rfl, ha, hb, rfl, ⟨0, rfl⟩⟩
  case round =>
    obtain ⟨x, y, rfl, rfl, hx, hy, H, HB⟩ := hrel
    by_cases h0 : y = 0
    · subst h0
      have HG : Hid (Nat.gcd a b = x) := by show _ = _; rw [H.out, Nat.gcd_zero_right]
      go_wp2
      go_ret
      exact ⟨by rw [HG.out]; rfl, HB.out⟩
    · have hy0 : 0 < (y : Int) := by omega
      have HG : Hid (Nat.gcd a b = Nat.gcd y (x % y)) := by show _ = _; rw [H.out, Nat.gcd_comm, Nat.gcd_rec, Nat.gcd_comm]
      have hlt := Nat.mod_lt x (show 0 < y by omega)
      have hm : ((x : Int) % (y : Int)) = ((x % y : Nat) : Int) := by simp
      have HM := Lib.hid hm
      have HD : Hid (∃ m, wr.drew = w.drewN m) := by
        obtain ⟨m, hm⟩ := HB.out
        exact ⟨m + 1, by rw [hm]; rfl⟩
      clear hm
      go_wp2
      go_region
      go_wp2
      go_roundw
      case rel => exact ⟨y, x % y, rfl, by rw [HM.out], by omega, by omega, HG, HD⟩
      case measure => simp [intOf]; omega
theorem gcd_any (a b : Nat) (ha : a < 9223372036854775808) (hb : b < 9223372036854775808) (w : World) :
    Calls Try.prog 76 #[.int .i64 a, .int .i64 b] w fun e w' => e = .returned (.int .i64 (Nat.gcd a b : Nat)) ∧ Below w.heap.size w w' := by
  refine (gcd_draws a b ha hb w).mono ?_
  rintro e w' ⟨rfl, m, rfl⟩
  exact ⟨rfl, below_drewN (Below.refl _ _) m⟩
end Go.Proofs.Ytffnopdpndpngaa.Rat
namespace Go.Proofs.Ytffnopdpndpngaa.Rat
open Go.RowKit

theorem info49 : (Try.prog.info? 100).map (·.size) = some 3 := by kernel_rfl

set_option maxHeartbeats 1000000 in
theorem times_any (x y : Int) (hx : x.natAbs ≤ 1152921504606846976) (hy : y.natAbs ≤ 1152921504606846976) (w : World) :
    Calls Try.prog 79 #[.int .i64 x, .int .i64 y] w fun e w' => e = .returned (wid (x * y)) ∧ Below w.heap.size w w' := by
  by_cases hx0 : x = 0
  · subst hx0
    rw [Int.zero_mul]
    go_enter Try.func79, Try.ntmps79
    go_wp2
    refine bodyPost_ret (results_cell_row rfl _ _ w.heap.size 100 _ (0, 0) _ rfl (heap_alloc_new w _) Try.underlying100 rfl info49) rfl ?_
    exact ⟨rfl, (Below.refl _ _).alloc (Nat.le_refl _) _⟩
  · by_cases hy0 : y = 0
    · subst hy0
      rw [Int.mul_zero]
      have hx1 : ¬ (x == 0) = true := by simp [hx0]
      go_enter Try.func79, Try.ntmps79
      go_wp2
      refine bodyPost_ret (results_cell_row rfl _ _ w.heap.size 100 _ (0, 0) _ rfl (heap_alloc_new w _) Try.underlying100 rfl info49) rfl ?_
      exact ⟨rfl, (Below.refl _ _).alloc (Nat.le_refl _) _⟩
    · have hx1 : ¬ (x == 0) = true := by simp [hx0]
      have hy1 : ¬ (y == 0) = true := by simp [hy0]
      have Q1 := Lib.hid fun w => abs_any x (by omega) (by omega) w
      have Q2 := Lib.hid fun w => abs_any y (by omega) (by omega) w
      have hb := prod_bounds x.natAbs y.natAbs hx hy
      obtain ⟨hw1, hw2⟩ := prod_int x.natAbs y.natAbs
      have HW1 := Lib.hid hw1
      have HW2 := Lib.hid hw2
      clear hw1 hw2
      have HN : Hid ((x * y).natAbs = x.natAbs * y.natAbs) := Int.natAbs_mul x y
      by_cases hs : x < 0
      · by_cases ht : y < 0
        · have HS : Hid ((x * y).sign = 1) := Int.sign_eq_one_of_pos (Int.mul_pos_of_neg_of_neg hs ht)
          generalize x.natAbs = X at *
          generalize y.natAbs = Y at *
          go_enter Try.func79, Try.ntmps79
          go_wp2_with fail
          refine (Q1.out _).mono ?_
          rintro e w1 ⟨rfl, rfl⟩
          go_wp2_with fail
          refine (Q2.out _).mono ?_
          rintro e w2 ⟨rfl, rfl⟩
          go_wp2
          refine bodyPost_ret (results_cell_row rfl _ _ w.heap.size 100 _ (0, 0) _ rfl (heap_alloc_new w _) Try.underlying100 rfl info49) rfl ?_
          exact ⟨by unfold wid; rw [HS.out, HN.out, HW1.out, HW2.out], (Below.refl _ _).alloc (Nat.le_refl _) _⟩
        · have HS : Hid ((x * y).sign = -1) := Int.sign_eq_neg_one_of_neg (Int.mul_neg_of_neg_of_pos hs (by omega))
          generalize x.natAbs = X at *
          generalize y.natAbs = Y at *
          go_enter Try.func79, Try.ntmps79
          go_wp2_with fail
          refine (Q1.out _).mono ?_
          rintro e w1 ⟨rfl, rfl⟩
          go_wp2_with fail
          refine (Q2.out _).mono ?_
          rintro e w2 ⟨rfl, rfl⟩
          go_wp2
          refine bodyPost_ret (results_cell_row rfl _ _ w.heap.size 100 _ (0, 0) _ rfl (heap_alloc_new w _) Try.underlying100 rfl info49) rfl ?_
          exact ⟨by unfold wid; rw [HS.out, HN.out, HW1.out, HW2.out], (Below.refl _ _).alloc (Nat.le_refl _) _⟩
      · by_cases ht : y < 0
        · have HS : Hid ((x * y).sign = -1) := Int.sign_eq_neg_one_of_neg (Int.mul_neg_of_pos_of_neg (by omega) ht)
          generalize x.natAbs = X at *
          generalize y.natAbs = Y at *
          go_enter Try.func79, Try.ntmps79
          go_wp2_with fail
          refine (Q1.out _).mono ?_
          rintro e w1 ⟨rfl, rfl⟩
          go_wp2_with fail
          refine (Q2.out _).mono ?_
          rintro e w2 ⟨rfl, rfl⟩
          go_wp2
          refine bodyPost_ret (results_cell_row rfl _ _ w.heap.size 100 _ (0, 0) _ rfl (heap_alloc_new w _) Try.underlying100 rfl info49) rfl ?_
          exact ⟨by unfold wid; rw [HS.out, HN.out, HW1.out, HW2.out], (Below.refl _ _).alloc (Nat.le_refl _) _⟩
        · have HS : Hid ((x * y).sign = 1) := Int.sign_eq_one_of_pos (Int.mul_pos (by omega) (by omega))
          generalize x.natAbs = X at *
          generalize y.natAbs = Y at *
          go_enter Try.func79, Try.ntmps79
          go_wp2_with fail
          refine (Q1.out _).mono ?_
          rintro e w1 ⟨rfl, rfl⟩
          go_wp2_with fail
          refine (Q2.out _).mono ?_
          rintro e w2 ⟨rfl, rfl⟩
          go_wp2
          refine bodyPost_ret (results_cell_row rfl _ _ w.heap.size 100 _ (0, 0) _ rfl (heap_alloc_new w _) Try.underlying100 rfl info49) rfl ?_
          exact ⟨by unfold wid; rw [HS.out, HN.out, HW1.out, HW2.out], (Below.refl _ _).alloc (Nat.le_refl _) _⟩
end Go.Proofs.Ytffnopdpndpngaa.Rat
namespace Go.Proofs.Ytffnopdpndpngaa.Rat
open Go.RowKit


theorem heap3_0 (w : World) (A B C : Obj) : (((w.alloc A).alloc B).alloc C).heap[w.heap.size]? = some A := by
  rw [heap_alloc_old _ _ (by rw [World.size_alloc, World.size_alloc]; omega)]
  exact heap_alloc2_old w _ _
theorem heap3_1 (w : World) (A B C : Obj) : (((w.alloc A).alloc B).alloc C).heap[w.heap.size + 1]? = some B := by
  rw [heap_alloc_old _ _ (by rw [World.size_alloc, World.size_alloc]; omega)]
  exact heap_alloc2_new w _ _
theorem heap3_2 (w : World) (A B C : Obj) : (((w.alloc A).alloc B).alloc C).heap[w.heap.size + 1 + 1]? = some C := by
  have h := heap_alloc_new ((w.alloc A).alloc B) C
  rw [World.size_alloc, World.size_alloc] at h
  exact h
theorem set3 {w : World} {g : Nat} {a b c : Value} {t : TypeId} (x y z : Value) (h : w.heap[g]? = some (.cells #[a, b, c] t (0, 0))) :
    (((w.setCell ⟨g, 0, none⟩ x).setCell ⟨g, 1, none⟩ y).setCell ⟨g, 2, none⟩ z).heap[g]? = some (.cells #[x, y, z] t (0, 0)) :=
  heap_setCell_same _ _ _ _ _ _ (heap_setCell_same _ _ _ _ _ _ (heap_setCell_same _ _ _ _ _ _ h))
theorem agg3 {a b c a' b' c' : Int} (h1 : a = a') (h2 : b = b') (h3 : c = c') : Ending.returned (.agg #[.int .i64 a, .int .i64 b, .int .i64 c]) = .returned (.agg #[.int .i64 a', .int .i64 b', .int .i64 c']) := by rw [h1, h2, h3]
theorem six_world {w w0 : World} {g : Nat} {t : TypeId} {C : Array Value} {x0 x1 x2 x3 x4 x5 a0 a1 a2 b0 b1 b2 : Value}
    (hA : w.heap[g]? = some (.cells #[a0, a1, a2] t (0, 0))) (hB : w.heap[g + 1]? = some (.cells #[b0, b1, b2] t (0, 0))) (hC : w.heap[g + 1 + 1]? = some (.cells C t (0, 0))) (hb : Below g w0 w) :
    ((((((w.setCell ⟨g, 0, none⟩ x0).setCell ⟨g, 1, none⟩ x1).setCell ⟨g, 2, none⟩ x2).setCell ⟨g + 1, 0, none⟩ x3).setCell ⟨g + 1, 1, none⟩ x4).setCell ⟨g + 1, 2, none⟩ x5).heap[g]? = some (.cells #[x0, x1, x2] t (0, 0)) ∧
    ((((((w.setCell ⟨g, 0, none⟩ x0).setCell ⟨g, 1, none⟩ x1).setCell ⟨g, 2, none⟩ x2).setCell ⟨g + 1, 0, none⟩ x3).setCell ⟨g + 1, 1, none⟩ x4).setCell ⟨g + 1, 2, none⟩ x5).heap[g + 1]? = some (.cells #[x3, x4, x5] t (0, 0)) ∧
    ((((((w.setCell ⟨g, 0, none⟩ x0).setCell ⟨g, 1, none⟩ x1).setCell ⟨g, 2, none⟩ x2).setCell ⟨g + 1, 0, none⟩ x3).setCell ⟨g + 1, 1, none⟩ x4).setCell ⟨g + 1, 2, none⟩ x5).heap[g + 1 + 1]? = some (.cells C t (0, 0)) ∧
    Below g w0 ((((((w.setCell ⟨g, 0, none⟩ x0).setCell ⟨g, 1, none⟩ x1).setCell ⟨g, 2, none⟩ x2).setCell ⟨g + 1, 0, none⟩ x3).setCell ⟨g + 1, 1, none⟩ x4).setCell ⟨g + 1, 2, none⟩ x5) := by
  refine ⟨?_, ?_, ?_, (((((hb.setCell (Nat.le_refl _) _).setCell (Nat.le_refl _) _).setCell (Nat.le_refl _) _).setCell (by simp) _).setCell (by simp) _).setCell (by simp) _⟩
  · rw [heap_setCell_other _ _ _ _ (by simp), heap_setCell_other _ _ _ _ (by simp), heap_setCell_other _ _ _ _ (by simp)]
    exact set3 _ _ _ hA
  · refine set3 (a := b0) (b := b1) (c := b2) _ _ _ ?_
    rw [heap_setCell_other _ _ _ _ (by simp), heap_setCell_other _ _ _ _ (by simp), heap_setCell_other _ _ _ _ (by simp)]
    exact hB
  · rw [heap_setCell_other _ _ _ _ (by simp), heap_setCell_other _ _ _ _ (by simp), heap_setCell_other _ _ _ _ (by simp), heap_setCell_other _ _ _ _ (by simp; omega), heap_setCell_other _ _ _ _ (by simp; omega), heap_setCell_other _ _ _ _ (by simp; omega)]
    exact hC
theorem one3 (a b c : Int) : #[Value.int .i64 a, .int .i64 b, .int .i64 c].all (·.oneCell') = true := by simp [Value.oneCell']
theorem below3 (w : World) (A B C : Obj) : Below w.heap.size w (((w.alloc A).alloc B).alloc C) :=
  (((Below.refl w.heap.size w).alloc (Nat.le_refl _) A).alloc (by simp) B).alloc (by simp; omega) C
theorem below_setRow {B g : Nat} {w w' : World} (hb : Below B w w') (hg : B ≤ g) (cs : Array Value) : Below B w (w'.setRow g cs) :=
  ⟨hb.os, hb.tape, hb.output, by rw [size_setRow]; exact hb.size, fun k hk => (setRow_other _ _ _ _ (by omega)).trans (hb.block k hk)⟩







end Go.Proofs.Ytffnopdpndpngaa.Rat
namespace Go.Proofs.Ytffnopdpndpngaa.Rat
open Go.RowKit

/-- How far the sums of products go. -/
def far (z : Int) : Prop := z.natAbs ≤ 2658455991569831745807614120560689152
theorem far_hi {z : Int} (h : far z) : z.natAbs / 1152921504606846976 ≤ 2305843009213693952 := by
  unfold far at h
  omega
theorem wid_of {z : Int} {s h l : Int} (h1 : z.sign = s) (h2 : ((z.natAbs / 1152921504606846976 : Nat) : Int) = h) (h3 : ((z.natAbs % 1152921504606846976 : Nat) : Int) = l) : wid z = .agg #[.int .i64 s, .int .i64 h, .int .i64 l] := by
  unfold wid
  rw [h1, h2, h3]
theorem lo_lt (z : Int) : z.natAbs % 1152921504606846976 < 1152921504606846976 := Nat.mod_lt _ (by omega)
end Go.Proofs.Ytffnopdpndpngaa.Rat
namespace Go.Proofs.Ytffnopdpndpngaa.Rat
open Go.RowKit

theorem ret_int_bool {a b : Int} {c : Bool} (h : a = b) : Ending.returned (.tuple #[.int .i64 a, .bool c]) = .returned (.tuple #[.int .i64 b, .bool c]) := by rw [h]
set_option maxHeartbeats 1000000 in
theorem fits_raw (s : Int) (h l : Nat) (hl : l < 1152921504606846976) (hh : h ≤ 2305843009213693952) (w : World) :
    (h * 1152921504606846976 + l ≤ 1152921504606846976 → ∀ w, Calls Try.prog 95 #[.agg #[.int .i64 s, .int .i64 h, .int .i64 l]] w fun e w' => e = .returned (.tuple #[.int .i64 (if s < 0 then -((h * 1152921504606846976 + l : Nat) : Int) else ((h * 1152921504606846976 + l : Nat) : Int)), .bool true]) ∧ Below w.heap.size w w') ∧
    (¬ h * 1152921504606846976 + l ≤ 1152921504606846976 → ∀ w, Calls Try.prog 95 #[.agg #[.int .i64 s, .int .i64 h, .int .i64 l]] w fun e w' => e = .returned (.tuple #[.int .i64 0, .bool false]) ∧ Below w.heap.size w w') := by
  refine ⟨fun hf w => ?_, fun hf w => ?_⟩
  · have h1 : h = 0 ∨ h = 1 ∧ l = 0 := by omega
    rcases h1 with rfl | ⟨rfl, rfl⟩
    · by_cases hs : s < 0
      · rw [if_pos hs]
        go_enter Try.func95, Try.ntmps95
        go_wp2
        go_ret2
        exact ⟨ret_int_bool (by simp <;> omega), (Below.refl _ _).alloc (Nat.le_refl _) _⟩
      · rw [if_neg hs]
        go_enter Try.func95, Try.ntmps95
        go_wp2
        go_ret2
        exact ⟨ret_int_bool (by simp <;> omega), (Below.refl _ _).alloc (Nat.le_refl _) _⟩
    · by_cases hs : s < 0
      · rw [if_pos hs]
        go_enter Try.func95, Try.ntmps95
        go_wp2
        go_ret2
        exact ⟨ret_int_bool (by simp <;> omega), (Below.refl _ _).alloc (Nat.le_refl _) _⟩
      · rw [if_neg hs]
        go_enter Try.func95, Try.ntmps95
        go_wp2
        go_ret2
        exact ⟨ret_int_bool (by simp <;> omega), (Below.refl _ _).alloc (Nat.le_refl _) _⟩
  · by_cases h2 : 1 < h
    · have g : (1 : Int) < h := by omega
      go_enter Try.func95, Try.ntmps95
      go_wp2
      go_ret2
      exact ⟨rfl, (Below.refl _ _).alloc (Nat.le_refl _) _⟩
    · obtain rfl : h = 1 := by omega
      have g : (0 : Int) < l := by omega
      go_enter Try.func95, Try.ntmps95
      go_wp2
      go_ret2
      exact ⟨rfl, (Below.refl _ _).alloc (Nat.le_refl _) _⟩

/-- What is still to be divided, and what the quotient's low word is, when the bits from k on have been taken. -/
theorem bit_of (H L i : Nat) (hi : i < 60) : (H * 1152921504606846976 + L) / 2 ^ i % 2 = L / 2 ^ i % 2 := by
  have e : (1152921504606846976 : Nat) = 2 ^ i * 2 ^ (60 - i) := by rw [← Nat.pow_add, show i + (60 - i) = 60 by omega]
  have e2 : 2 ^ (60 - i) = 2 * 2 ^ (59 - i) := by rw [show 60 - i = 59 - i + 1 by omega, Nat.pow_succ, Nat.mul_comm]
  rw [e, show H * (2 ^ i * 2 ^ (60 - i)) + L = 2 ^ i * (H * 2 ^ (60 - i)) + L by rw [← Nat.mul_assoc, Nat.mul_comm H, Nat.mul_assoc], Nat.mul_add_div (Nat.two_pow_pos i), e2]
  rw [show H * (2 * 2 ^ (59 - i)) = 2 * (H * 2 ^ (59 - i)) by rw [← Nat.mul_assoc, Nat.mul_comm H, Nat.mul_assoc]]
  omega
def Ov (H L n k r q : Nat) : Prop := r = (H * 1152921504606846976 + L) / 2 ^ k % n ∧ q = 2 ^ k * ((H * 1152921504606846976 + L) / 2 ^ k / n)
theorem ov_start (H L n : Nat) (hH : H < n) (hL : L < 1152921504606846976) : Ov H L n 60 H 0 := by
  unfold Ov
  have e : (H * 1152921504606846976 + L) / 2 ^ 60 = H := by
    have : (2 : Nat) ^ 60 = 1152921504606846976 := by decide
    rw [this]; omega
  rw [e, Nat.mod_eq_of_lt hH, Nat.div_eq_of_lt hH]
  exact ⟨rfl, rfl⟩
theorem ov_yes {H L n i r q : Nat} (hi : i < 60) (hn : 0 < n) (h : Ov H L n (i + 1) r q) (hge : n ≤ 2 * r + L / 2 ^ i % 2) : Ov H L n i (2 * r + L / 2 ^ i % 2 - n) (q + 2 ^ i) := by
  obtain ⟨h1, h2⟩ := h
  have hr := Nat.mod_lt ((H * 1152921504606846976 + L) / 2 ^ (i + 1)) hn
  rw [← h1] at hr
  have hb : L / 2 ^ i % 2 < 2 := Nat.mod_lt _ (by decide)
  have s1 := div_step (H * 1152921504606846976 + L) n i hn
  have s2 := div_step_q (H * 1152921504606846976 + L) n i hn
  rw [bit_of H L i hi, ← h1] at s1 s2
  have d1 : (2 * r + L / 2 ^ i % 2) / n = 1 := by
    rw [Nat.div_eq_iff hn]; omega
  have d2 : (2 * r + L / 2 ^ i % 2) % n = 2 * r + L / 2 ^ i % 2 - n := by
    rw [Nat.mod_eq_sub_mod hge, Nat.mod_eq_of_lt (by omega)]
  refine ⟨by rw [s1, d2], ?_⟩
  rw [s2, d1, h2, Nat.pow_succ, Nat.mul_add, Nat.mul_one, Nat.mul_assoc]
theorem ov_no {H L n i r q : Nat} (hi : i < 60) (hn : 0 < n) (h : Ov H L n (i + 1) r q) (hlt : 2 * r + L / 2 ^ i % 2 < n) : Ov H L n i (2 * r + L / 2 ^ i % 2) q := by
  obtain ⟨h1, h2⟩ := h
  have s1 := div_step (H * 1152921504606846976 + L) n i hn
  have s2 := div_step_q (H * 1152921504606846976 + L) n i hn
  rw [bit_of H L i hi, ← h1] at s1 s2
  refine ⟨by rw [s1, Nat.mod_eq_of_lt hlt], ?_⟩
  rw [s2, Nat.div_eq_of_lt hlt, Nat.add_zero, h2, Nat.pow_succ, Nat.mul_assoc]
theorem ov_end {H L n r q : Nat} (h : Ov H L n 0 r q) : r = (H * 1152921504606846976 + L) % n ∧ q = (H * 1152921504606846976 + L) / n := by
  obtain ⟨h1, h2⟩ := h
  rw [Nat.pow_zero, Nat.div_one] at h1 h2
  exact ⟨h1, by rw [h2, Nat.one_mul]⟩
theorem ov_bound {H L n k r q : Nat} (hn : 0 < n) (hH : H < n) (hL : L < 1152921504606846976) (h : Ov H L n k r q) : r < n ∧ q < 1152921504606846976 := by
  obtain ⟨h1, h2⟩ := h
  refine ⟨by rw [h1]; exact Nat.mod_lt _ hn, ?_⟩
  have h3 : q ≤ (H * 1152921504606846976 + L) / n := by
    rw [h2, Nat.div_div_eq_div_mul, Nat.mul_comm (2 ^ k) n, ← Nat.div_div_eq_div_mul]
    exact Nat.mul_div_le _ _
  have h4 : (H * 1152921504606846976 + L) / n < 1152921504606846976 := by
    rw [Nat.div_lt_iff_lt_mul hn]
    calc H * 1152921504606846976 + L < (H + 1) * 1152921504606846976 := by omega
      _ ≤ n * 1152921504606846976 := Nat.mul_le_mul_right _ hH
      _ = 1152921504606846976 * n := Nat.mul_comm _ _
  omega

theorem res_cell_tmp {fn : Func} {p u : Tmp} {ty : TypeId} {P : Program} (h : fn.results = #[.cell p ty, .tmp u]) (tmps : Array Value) (w : World) (g : Nat) (t : TypeId) (cs : Array Value) (fr : Nat × Nat) (d : TypeDesc)
    (hp : tmps.getD p undef = .pointer (some ⟨g, 0, none⟩)) (hg : w.heap[g]? = some (.cells cs t fr))
    (hu : P.underlying ty = some d) (hd : (match d with | .struct _ | .array _ _ => true | _ => false) = true) (hi : (P.info? ty).map (·.size) = some cs.size) :
    (results fn tmps).run P w = .ok (.tuple #[.agg cs, tmps.getD u undef]) w := by
  rw [results_cell_tmp h, hp]
  have hl := run_loadVar_row (P := P) w g t ty cs fr d hg hu (by cases d <;> simp_all) hi
  simp only [asAddr, Sem.run_pure, Result.andThen_ok, hl]
theorem ret_wid_int {a b c d a' b' c' d' : Int} (h1 : a = a') (h2 : b = b') (h3 : c = c') (h4 : d = d') : Ending.returned (.tuple #[.agg #[.int .i64 a, .int .i64 b, .int .i64 c], .int .i64 d]) = .returned (.tuple #[.agg #[.int .i64 a', .int .i64 b', .int .i64 c'], .int .i64 d']) := by rw [h1, h2, h3, h4]
end Go.Proofs.Ytffnopdpndpngaa.Rat
