/- What readUpTo makes of the bytes that come, and that it is what rd says. -/
import Derived.Test.YtpinmmmbmhfmiaaIter
import Derived.Test.YtpinmmmbmhfmiaaMath
import Derived.IntWalk
namespace Go.Proofs.Ytpinmmmbmhfmiaa
open Go.RowKit

/-- One group more. -/
def shB (x : IB) : Int := IntKind.i64.wrap ((x.1.2.toNat : Int) % 128 * 2 ^ min (7 * x.1.1) 64)
theorem sh_run (x : IB) (W : World) : (Op.shift .shl .i64 (IntKind.i64.wrap ((x.1.2.toNat : Int).tmod 128)) .i64 (IntKind.i64.wrap (7 * (x.1.1 : Int)))).run Try.prog W = .ok (.int .i64 (shB x)) W := by
  have hx1 := x.2
  have e1 : IntKind.i64.wrap (7 * (x.1.1 : Int)) = ((7 * x.1.1 : Nat) : Int) := by rw [IntWalk.i64_in _ (by omega)]; omega
  have e2 : IntKind.i64.wrap ((x.1.2.toNat : Int).tmod 128) = (x.1.2.toNat : Int) % 128 := by rw [Int.tmod_eq_emod_of_nonneg (by omega), IntWalk.i64_in _ (by omega)]
  rw [e1, e2, shift_shl_any _ _ _ _ (by omega)]
  rfl
def stepA (a : Int) (x : IB) : Int := bits .or .i64 a (shB x)
def accA (pre : List IB) : Int := pre.foldl stepA 0
theorem accA_snoc (pre : List IB) (x : IB) : accA (pre ++ [x]) = stepA (accA pre) x := by simp [accA]
/-- The loop goes on behind x. -/
def cont (x : IB) : Prop := 128 ≤ x.1.2.toNat ∧ x.1.1 + 1 < 9
/-- What the call hands back where it stops at x, a being the number. -/
def out (most : Nat) (a : Int) (x : IB) : Int × Int × Int :=
  if 128 ≤ x.1.2.toNat ∨ (x.1.2.toNat = 0 ∧ 1 < x.1.1 + 1) ∨ (most : Int) < a then (0, 0, 12) else (a, (x.1.1 : Int) + 1, 0)

theorem nat_or (i acc c : Nat) (h : acc < 2 ^ i) : acc ||| c * 2 ^ i = acc + c * 2 ^ i := by
  have := Nat.two_pow_add_eq_or_of_lt h c
  rw [Nat.or_comm, Nat.mul_comm c, ← this, Nat.add_comm]

/-- One group more, as a number. -/
theorem stepA_nat {k acc : Nat} {b : UInt8} (hk : k ≤ 8) (hk2 : k < 4294967296) (hacc : acc < 2 ^ (7 * k)) : stepA acc ⟨(k, b), hk2⟩ = ((acc + b.toNat % 128 * 2 ^ (7 * k) : Nat) : Int) := by
  have h1 : 2 ^ (7 * k) ≤ 72057594037927936 := Nat.le_trans (Nat.pow_le_pow_right (by omega) (show 7 * k ≤ 56 by omega)) (by decide)
  have h3 : b.toNat % 128 * 2 ^ (7 * k) ≤ 127 * 2 ^ (7 * k) := Nat.mul_le_mul_right _ (by omega)
  have hm : min (7 * k) 64 = 7 * k := by omega
  have e : ((b.toNat : Int) % 128 * 2 ^ (7 * k)) = ((b.toNat % 128 * 2 ^ (7 * k) : Nat) : Int) := by simp
  have hw : IntKind.i64.wrap ((b.toNat % 128 * 2 ^ (7 * k) : Nat) : Int) = ((b.toNat % 128 * 2 ^ (7 * k) : Nat) : Int) := by
    generalize b.toNat % 128 * 2 ^ (7 * k) = p at *
    generalize 2 ^ (7 * k) = q at *
    rw [IntWalk.i64_in _ (by omega)]
  have hw63 : ∀ n : Int, 0 ≤ n → n < 2 ^ 63 → IntKind.i64.wrap n = n := fun n g1 g2 => IntWalk.i64_in _ (by omega)
  unfold stepA shB
  dsimp only
  rw [hm, e, hw, (bits_nat .i64 63 (by decide) hw63 acc (b.toNat % 128 * 2 ^ (7 * k)) (by omega) (by omega)).2, nat_or _ _ _ hacc]

/-- What has been made when k bytes have come, each of which lets the loop go on. -/
theorem walked {s : ByteArray} (hs : s.size ≤ 4294967000) (most : Nat) : ∀ k, k ≤ s.size → (∀ x ∈ upto s k, cont x) → k ≤ 8 ∧ ∃ acc : Nat, accA (upto s k) = acc ∧ acc < 2 ^ (7 * k) ∧ rd most 0 0 s.data.toList = rd most k acc (s.data.toList.drop k)
  | 0, _, _ => ⟨by omega, 0, rfl, by decide, rfl⟩
  | k + 1, hk, hp => by
    rw [upto_succ s hs (by omega)] at hp ⊢
    obtain ⟨hk8, acc, h1, h2, h3⟩ := walked hs most k (by omega) (fun x hx => hp x (List.mem_append.2 (.inl hx)))
    have hc := hp ⟨(k, s[k]), show k < 4294967296 by omega⟩ (by simp)
    obtain ⟨hc1, hc2⟩ := hc
    dsimp only at hc1 hc2
    refine ⟨by omega, acc + s[k].toNat % 128 * 2 ^ (7 * k), by rw [accA_snoc, h1, stepA_nat hk8 _ h2], ?_, ?_⟩
    · rw [pow7]
      have h4 : s[k].toNat % 128 * 2 ^ (7 * k) ≤ 127 * 2 ^ (7 * k) := Nat.mul_le_mul_right _ (by omega)
      omega
    · rw [h3, List.drop_eq_getElem_cons (show k < s.data.toList.length by simp; omega)]
      exact rd_more hc1 (by omega)

theorem rd_all {s : ByteArray} (hs : s.size ≤ 4294967000) {most : Nat} {ys : List IB} (hS : AllOf s ys) (hp : ∀ x ∈ ys, cont x) : rd most 0 0 s.data.toList = (0, 0, 11) := by
  obtain ⟨k, hk, rfl, hor⟩ := hS
  rcases hor with rfl | ⟨x, hx, hlt⟩
  · obtain ⟨_, acc, _, _, h⟩ := walked hs most _ hk hp
    rw [h, List.drop_eq_nil_of_le (by simp), rd_nil]
  · have := (hp x hx).1
    omega

theorem rd_stop {s : ByteArray} (hs : s.size ≤ 4294967000) {most : Nat} {pre ini : List IB} {last : IB} (hS : PartOf s pre) (e1 : pre = ini ++ [last]) (e2 : ∀ x ∈ ini, cont x) (e3 : ¬ cont last) :
    out most (accA pre) last = (((rd most 0 0 s.data.toList).1 : Int), ((rd most 0 0 s.data.toList).2.1 : Int), ((rd most 0 0 s.data.toList).2.2 : Int)) := by
  obtain ⟨k, hk, rfl⟩ := hS
  obtain ⟨k', rfl⟩ : ∃ k', k = k' + 1 := by
    cases k with
    | zero => simp [upto] at e1
    | succ k' => exact ⟨k', rfl⟩
  rw [upto_succ s hs (by omega)] at e1 ⊢
  obtain ⟨rfl, e5⟩ := List.append_inj' e1 rfl
  have e6 : (⟨(k', s[k']), show k' < 4294967296 by omega⟩ : IB) = last := by simpa using e5
  rw [← e6] at e3 ⊢
  clear e5 e6
  obtain ⟨hk8, acc, h1, h2, h3⟩ := walked hs most k' (by omega) e2
  rw [accA_snoc, h1, stepA_nat hk8 _ h2, h3, List.drop_eq_getElem_cons (show k' < s.data.toList.length by simp; omega)]
  have e : s.data.toList[k']'(show k' < s.data.toList.length by simp; omega) = s[k'] := rfl
  rw [e]
  unfold out cont at *
  dsimp only at *
  by_cases hb : 128 ≤ s[k'].toNat
  · rw [if_pos (.inl hb), rd_long hb (by omega)]
    rfl
  · have hmod : s[k'].toNat % 128 = s[k'].toNat := by omega
    rw [hmod]
    by_cases hz : (0 < k' ∧ s[k'].toNat = 0) ∨ most < acc + s[k'].toNat * 2 ^ (7 * k')
    · rw [rd_bad (by omega) hz, if_pos (by omega)]
      rfl
    · rw [rd_last (by omega) hz, if_neg (by omega)]
      rfl

end Go.Proofs.Ytpinmmmbmhfmiaa
