/- Plain facts on fractions: valid ones are Lean's own rationals; how sums and products are reduced; numbers of two words. -/
import Derived.Lib.Varint
set_option linter.unusedVariables false
set_option linter.unusedSimpArgs false
namespace Go.Proofs.Ytbiegbnncnjnmaa.Rat

/-- 2^60. -/
def big : Nat := 1152921504606846976
theorem norm_num' (n : Int) (d : Nat) (h : d ≠ 0) : (Rat.normalize n d h).num = n / ((n.natAbs.gcd d : Nat) : Int) := by rw [Rat.normalize_eq]
theorem norm_den' (n : Int) (d : Nat) (h : d ≠ 0) : (Rat.normalize n d h).den = d / n.natAbs.gcd d := by rw [Rat.normalize_eq]
/-- A valid fraction. -/
def Valid (n : Int) (d : Nat) : Prop := 1 ≤ d ∧ d ≤ big ∧ n.natAbs ≤ big ∧ n.natAbs.gcd d = 1
def toQ (n : Int) (d : Nat) : Rat := mkRat n d
theorem toQ_num {n : Int} {d : Nat} (hd : 1 ≤ d) (hg : n.natAbs.gcd d = 1) : (toQ n d).num = n ∧ (toQ n d).den = d := by
  unfold toQ
  have h0 : d ≠ 0 := by omega
  rw [mkRat, dif_neg h0, norm_num', norm_den', hg]
  exact ⟨by simp, by simp⟩
theorem Valid.num {n : Int} {d : Nat} (h : Valid n d) : (toQ n d).num = n := (toQ_num h.1 h.2.2.2).1
theorem Valid.den {n : Int} {d : Nat} (h : Valid n d) : (toQ n d).den = d := (toQ_num h.1 h.2.2.2).2

def FitsQ (q : Rat) : Prop := q.num.natAbs ≤ big ∧ q.den ≤ big
theorem valid_of_fits {q : Rat} (h : FitsQ q) : Valid q.num q.den := ⟨Nat.pos_of_ne_zero q.den_nz, h.2, h.1, q.reduced⟩
theorem toQ_self (q : Rat) : toQ q.num q.den = q := by
  obtain ⟨h1, h2⟩ := toQ_num (Nat.pos_of_ne_zero q.den_nz) q.reduced
  exact Rat.ext h1 h2
theorem Valid.fits {n : Int} {d : Nat} (h : Valid n d) : FitsQ (toQ n d) := by
  unfold FitsQ; rw [h.num, h.den]; exact ⟨h.2.2.1, h.2.1⟩
theorem toQ_inj {n n' : Int} {d d' : Nat} (h : Valid n d) (h' : Valid n' d') (e : toQ n d = toQ n' d') : n = n' ∧ d = d' :=
  ⟨by rw [← h.num, ← h'.num, e], by rw [← h.den, ← h'.den, e]⟩

/-- A sum, as it is reduced. -/
theorem add_alg (a b : Rat) (g t : Nat) (num : Int) (hg : g = a.den.gcd b.den) (hn : num = a.num * ((b.den / g : Nat) : Int) + b.num * ((a.den / g : Nat) : Int)) (ht : t = g.gcd num.natAbs) :
    (a + b).num = num / t ∧ (a + b).den = a.den / g * (b.den / t) := by
  have hg0 : 0 < g := by rw [hg]; exact Nat.gcd_pos_of_pos_left _ (Nat.pos_of_ne_zero a.den_nz)
  have ht0 : 0 < t := by rw [ht]; exact Nat.gcd_pos_of_pos_left _ hg0
  have htg : t ∣ g := by rw [ht]; exact Nat.gcd_dvd_left _ _
  have hgb : g ∣ b.den := by rw [hg]; exact Nat.gcd_dvd_right _ _
  have hga : g ∣ a.den := by rw [hg]; exact Nat.gcd_dvd_left _ _
  have htb : t ∣ b.den := Nat.dvd_trans htg hgb
  have aux : num.natAbs.gcd g = num.natAbs.gcd (a.den / g * b.den) := by
    have h := Rat.add.aux a b (g := g) (ad := a.den / g) (bd := b.den / g) hg rfl rfl
    simp only at h
    rw [hn]
    exact h
  have htn : t = num.natAbs.gcd (a.den / g * b.den) := by rw [ht, Nat.gcd_comm, aux]
  have hden : a.den / g * (b.den / t) = a.den / g * b.den / t := (Nat.mul_div_assoc _ htb).symm
  have hd0 : a.den / g * b.den ≠ 0 := Nat.mul_ne_zero (Nat.ne_of_gt (Nat.div_pos (Nat.le_of_dvd (Nat.pos_of_ne_zero a.den_nz) hga) hg0)) b.den_nz
  have hadd : a + b = Rat.normalize num (a.den / g * b.den) hd0 := by
    rw [Rat.add_def]
    rw [Rat.normalize_eq_iff]
    obtain ⟨ad, ha⟩ := hga
    obtain ⟨bd, hb⟩ := hgb
    have e1 : a.den / g = ad := by rw [ha]; exact Nat.mul_div_cancel_left _ hg0
    have e2 : b.den / g = bd := by rw [hb]; exact Nat.mul_div_cancel_left _ hg0
    rw [hn, e1, e2, ha, hb]
    push_cast
    simp only [Int.add_mul]
    congr 1 <;> simp only [Int.mul_assoc, Int.mul_comm, Int.mul_left_comm]
  rw [hadd, norm_num', norm_den', ← htn, hden]
  exact ⟨rfl, rfl⟩

/-- A product, as it is reduced. -/
theorem mul_alg (a b : Rat) (g h : Nat) (hg : g = a.num.natAbs.gcd b.den) (hh : h = b.num.natAbs.gcd a.den) :
    (a * b).num = a.num / g * (b.num / h) ∧ (a * b).den = a.den / h * (b.den / g) := by
  subst hg hh
  have e : a * b = Rat.mul a b := rfl
  rw [e]
  unfold Rat.mul
  dsimp only
  exact ⟨by simp only [Int.divExact_eq_ediv], by simp only [Nat.divExact_eq_div]⟩

/-- A product of two numbers, by halves. -/
theorem halves (P X Y : Nat) (hP : 0 < P) :
    X / P * (Y / P) + (X / P * (Y % P) + X % P * (Y / P)) / P + (X % P * (Y % P) + (X / P * (Y % P) + X % P * (Y / P)) % P * P) / (P * P) = X * Y / (P * P) ∧
    (X % P * (Y % P) + (X / P * (Y % P) + X % P * (Y / P)) % P * P) % (P * P) = X * Y % (P * P) := by
  have hX := Nat.div_add_mod X P
  have hY := Nat.div_add_mod Y P
  generalize X / P = a at *
  generalize X % P = b at *
  generalize Y / P = c at *
  generalize Y % P = d at *
  have hC := Nat.div_add_mod (a * d + b * c) P
  generalize (a * d + b * c) / P = q at *
  generalize (a * d + b * c) % P = r at *
  have hXY : X * Y = P * P * (a * c + q) + (b * d + r * P) := by
    rw [← hX, ← hY]
    have h1 : (P * a + b) * (P * c + d) = P * P * (a * c) + P * (a * d + b * c) + b * d := by
      simp only [Nat.add_mul, Nat.mul_add]
      simp only [Nat.mul_assoc, Nat.mul_comm, Nat.mul_left_comm]
      omega
    rw [h1, ← hC]
    simp only [Nat.mul_add]
    simp only [Nat.mul_assoc, Nat.mul_comm, Nat.mul_left_comm]
    omega
  have hPP : 0 < P * P := Nat.mul_pos hP hP
  rw [hXY, Nat.mul_add_div hPP, Nat.mul_add_mod]
  exact ⟨by omega, rfl⟩
end Go.Proofs.Ytbiegbnncnjnmaa.Rat
