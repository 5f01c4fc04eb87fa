/- Layer 12: what Quantile and Rank make of what the iterator yields. -/
import Derived.Test.YtffnopdpndpngaaMq
set_option linter.unusedVariables false
set_option linter.unusedSimpArgs false
namespace Go.Proofs.Ytffnopdpndpngaa.Lh
theorem qItem_its {p mn mx rk : Int} : ∀ {a : Int} {b : B} {r : List B}, rk ≤ a + tot (b :: r) →
    qItem rk (its p mn mx a (b :: r)) = (max (loI p (qB (rk - a) b r)) mn, min (hiI p (qB (rk - a) b r)) mx)
  | a, b, [], h => by
    rw [tot_cons, tot_nil] at h
    show (if rk ≤ a + b.2 then _ else _) = _
    rw [if_pos (by omega)]
    rfl
  | a, b, c :: r, h => by
    rw [tot_cons] at h
    show (if rk ≤ a + b.2 then _ else qItem rk (its p mn mx (a + b.2) (c :: r))) = _
    by_cases e : rk ≤ a + b.2
    · rw [if_pos e]
      have : qB (rk - a) b (c :: r) = b.1 := if_pos (by omega)
      rw [this]
      rfl
    · rw [if_neg e, qItem_its (by omega)]
      have : qB (rk - a) b (c :: r) = qB (rk - a - b.2) c r := if_neg (by omega)
      rw [this, show rk - (a + b.2) = rk - a - b.2 by omega]
/-- The bounds of a quantile. -/
theorem qItem_qI {h : H} {rk : Int} (hne : h.bs ≠ []) (hk : rk ≤ tot h.bs) : qItem rk (its h.p h.mn h.mx 0 h.bs) = (lowH h (qI rk h.bs), highH h (qI rk h.bs)) := by
  cases hb : h.bs with
  | nil => exact (hne hb).elim
  | cons b r =>
    rw [hb] at hk
    rw [qItem_its (by omega), Int.sub_zero]
    rfl
/-- The number of values up to the last bucket of a kind. -/
def upP (P : Int → Prop) [DecidablePred P] : Int → Int → List B → Int
  | _, s, [] => s
  | a, s, b :: r => upP P (a + b.2) (if P b.1 then a + b.2 else s) r
theorem upP_no {P : Int → Prop} [DecidablePred P] : ∀ {a s : Int} {l : List B}, (∀ b ∈ l, ¬ P b.1) → upP P a s l = s
  | _, _, [], _ => rfl
  | a, s, b :: r, h => by
    show upP P (a + b.2) (if P b.1 then a + b.2 else s) r = s
    rw [if_neg (h b List.mem_cons_self)]
    exact upP_no fun x hx => h x (List.mem_cons_of_mem _ hx)
theorem upP_W {P : Int → Prop} [DecidablePred P] : ∀ {a : Int} {l : List B}, Asc l → (∀ b ∈ l, ∀ c ∈ l, b.1 ≤ c.1 → P c.1 → P b.1) → upP P a a l = a + W (fun j => if P j then 1 else 0) l
  | a, [], _, _ => by show a = a + 0; omega
  | a, b :: r, ha, h => by
    obtain ⟨a1, a2⟩ := asc_cons.mp ha
    show upP P (a + b.2) (if P b.1 then a + b.2 else a) r = a + (b.2 * (if P b.1 then 1 else 0) + W _ r)
    by_cases e : P b.1
    · rw [if_pos e, if_pos e, upP_W a2 fun x hx y hy => h x (List.mem_cons_of_mem _ hx) y (List.mem_cons_of_mem _ hy)]
      omega
    · have hn : ∀ x ∈ r, ¬ P x.1 := fun x hx hP => e (h b List.mem_cons_self x (List.mem_cons_of_mem _ hx) (by have := a1 x hx; omega) hP)
      rw [if_neg e, if_neg e, upP_no hn, W_zero fun x hx => if_neg (hn x hx)]
      omega
/-- What Rank remembers of a bucket. -/
def rkS (x : Int) (s : Int × Int) (q : It) : Int × Int := (if q.2.2.1 ≤ x then q.2.2.2 else s.1, if q.2.1 ≤ x then q.2.2.2 else s.2)
def rkL (x : Int) (l : List It) : Int × Int := l.foldl (rkS x) (0, 0)
theorem rkL_snoc (x : Int) (l : List It) (q : It) : rkL x (l ++ [q]) = rkS x (rkL x l) q := by unfold rkL; rw [List.foldl_append]; rfl
theorem rk_its (p mn mx x : Int) : ∀ (a : Int) (s : Int × Int) (l : List B), (its p mn mx a l).foldl (rkS x) s = (upP (fun j => min (hiI p j) mx ≤ x) a s.1 l, upP (fun j => max (loI p j) mn ≤ x) a s.2 l)
  | _, _, [] => rfl
  | a, s, b :: r => by
    show (its p mn mx (a + b.2) r).foldl (rkS x) (rkS x s (itm p mn mx a b)) = _
    rw [rk_its p mn mx x (a + b.2) _ r]
    rfl
/-- The bounds of a number. -/
theorem rkL_is {h : H} (o : Ok h) (x : Int) : rkL x (its h.p h.mn h.mx 0 h.bs) = (sureH h x, possH h x) := by
  unfold rkL
  rw [rk_its]
  have e1 := upP_W (P := fun j => min (hiI h.p j) h.mx ≤ x) (a := 0) o.asc fun b hb c hc hbc hP => by
    have := highH_mono (h := h) (o.rng b hb).1 hbc (o.rng c hc).2.1
    unfold highH at this
    have hP : min (hiI h.p c.1) h.mx ≤ x := hP
    show min (hiI h.p b.1) h.mx ≤ x
    omega
  have e2 := upP_W (P := fun j => max (loI h.p j) h.mn ≤ x) (a := 0) o.asc fun b hb c hc hbc hP => by
    have := lowH_mono (h := h) hbc
    unfold lowH at this
    have hP : max (loI h.p c.1) h.mn ≤ x := hP
    show max (loI h.p b.1) h.mn ≤ x
    omega
  rw [Int.zero_add] at e1 e2
  show (upP _ 0 0 h.bs, upP _ 0 0 h.bs) = _
  rw [e1, e2]
  rfl
/-- Joined with nothing: the same. -/
theorem red_same {h : H} (o : Ok h) : redH h h.p = h := by
  refine H.ext2 rfl rfl rfl rfl rfl ?_
  show puts (fun j => ixI h.p (loI h.p j)) [] h.bs = h.bs
  rw [puts_congr (g := fun j => j) (fun b hb => lo_key (o.rng b hb).1)]
  exact puts_nil_id o.asc o.pos
end Go.Proofs.Ytffnopdpndpngaa.Lh
