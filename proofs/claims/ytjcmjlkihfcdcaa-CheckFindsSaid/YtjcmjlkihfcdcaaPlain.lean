/-
  Plain facts on integers: Go's quotient and remainder against the rounded-down ones; products that go around; greatest common divisors. No program stands here.
-/
import Derived.IntWalk
namespace Go.Proofs.Ytjcmjlkihfcdcaa.plain
open Go.RowKit (wrap64)
set_option linter.unusedVariables false

theorem tdiv_of (n d : Int) (hd : 1 ≤ d) : n.tdiv d = if n.tmod d < 0 then n / d + 1 else n / d := by
  have e1 := Int.mul_tdiv_add_tmod n d
  have e2 := Int.mul_ediv_add_emod n d
  have hm := Int.emod_nonneg n (show d ≠ 0 by omega)
  have hl := Int.emod_lt_of_pos n (show 0 < d by omega)
  have ha := Int.tmod_lt_of_pos n (show 0 < d by omega)
  have hb : -d < n.tmod d := by
    have := Int.lt_tmod_of_pos n (show 0 < d by omega)
    omega
  split
  · rename_i h
    have e3 : d * (n.tdiv d - (n / d + 1)) = n % d - n.tmod d - d := by rw [Int.mul_sub, Int.mul_add]; omega
    have : n.tdiv d - (n / d + 1) = 0 := by
      apply Classical.byContradiction; intro hne
      rcases Int.lt_or_gt_of_ne hne with h1 | h1
      · have : d * (n.tdiv d - (n / d + 1)) ≤ d * (-1) := Int.mul_le_mul_of_nonneg_left (by omega) (by omega)
        omega
      · have : d * 1 ≤ d * (n.tdiv d - (n / d + 1)) := Int.mul_le_mul_of_nonneg_left (by omega) (by omega)
        omega
    omega
  · rename_i h
    have e3 : d * (n.tdiv d - n / d) = n % d - n.tmod d := by rw [Int.mul_sub]; omega
    have : n.tdiv d - n / d = 0 := by
      apply Classical.byContradiction; intro hne
      rcases Int.lt_or_gt_of_ne hne with h1 | h1
      · have : d * (n.tdiv d - n / d) ≤ d * (-1) := Int.mul_le_mul_of_nonneg_left (by omega) (by omega)
        omega
      · have : d * 1 ≤ d * (n.tdiv d - n / d) := Int.mul_le_mul_of_nonneg_left (by omega) (by omega)
        omega
    omega

theorem tmod_of (n d : Int) (hd : 1 ≤ d) : n.tmod d = if n.tmod d < 0 then n % d - d else n % d := by
  have e1 := Int.mul_tdiv_add_tmod n d
  have e2 := Int.mul_ediv_add_emod n d
  have e3 := tdiv_of n d hd
  by_cases h : n.tmod d < 0
  · rw [if_pos h] at e3 ⊢
    rw [e3, Int.mul_add] at e1; omega
  · rw [if_neg h] at e3 ⊢
    rw [e3] at e1; omega

/-- The rounded-down quotient of an int64 by a number from 1 on is an int64. -/
theorem ediv_le (n d : Int) (hd : 1 ≤ d) : (0 ≤ n → 0 ≤ n / d ∧ n / d ≤ n) ∧ (n < 0 → n ≤ n / d ∧ n / d < 0) := by
  constructor
  · intro h; exact ⟨Int.ediv_nonneg h (by omega), Int.ediv_le_self _ h⟩
  · intro h
    refine ⟨?_, Int.ediv_neg_of_neg_of_pos h (by omega)⟩
    rw [Int.le_ediv_iff_mul_le (by omega)]
    have : n * d ≤ n * 1 := Int.mul_le_mul_of_nonpos_left (by omega) (by omega)
    omega

theorem floor_neg (n d : Int) (hd : 1 ≤ d) (h1 : -9223372036854775808 ≤ n) (h2 : n ≤ 9223372036854775807) (h3 : d ≤ 9223372036854775807) (h : n.tmod d < 0) :
    wrap64 (n.tdiv d - 1) = n / d ∧ wrap64 (n.tmod d + d) = n % d := by
  have a := tdiv_of n d hd
  have b := tmod_of n d hd
  have c := ediv_le n d hd
  have hm := Int.emod_nonneg n (show d ≠ 0 by omega)
  have hl := Int.emod_lt_of_pos n (show 0 < d by omega)
  rw [if_pos h] at a b
  rw [a, b]
  by_cases h0 : 0 ≤ n
  · have := c.1 h0; constructor <;> (refine Eq.trans (IntWalk.wrap64_in _ (by omega)) (by omega))
  · have := c.2 (by omega); constructor <;> (refine Eq.trans (IntWalk.wrap64_in _ (by omega)) (by omega))

theorem floor_nonneg (n d : Int) (hd : 1 ≤ d) (h : 0 ≤ n.tmod d) : n.tdiv d = n / d ∧ n.tmod d = n % d := by
  have a := tdiv_of n d hd
  have b := tmod_of n d hd
  rw [if_neg (by omega)] at a b
  exact ⟨a, b⟩

/-! ### Tests by '!=' on two tests -/
theorem bne_no {p q : Prop} [Decidable p] [Decidable q] (h : p ↔ q) : (!(decide p == decide q)) = false := by
  by_cases hp : p
  · have hq := h.1 hp; simp [hp, hq]
  · have hq : ¬ q := fun x => hp (h.2 x)
    simp [hp, hq]
theorem bne_yes {p q : Prop} [Decidable p] [Decidable q] (h : ¬ (p ↔ q)) : (!(decide p == decide q)) = true := by
  by_cases hp : p <;> by_cases hq : q <;> simp [hp, hq] <;> exact h (by simp [hp, hq])

theorem add_over (a b : Int) (a1 : -9223372036854775808 ≤ a) (a2 : a ≤ 9223372036854775807) (b1 : -9223372036854775808 ≤ b) (b2 : b ≤ 9223372036854775807)
    (h : a + b < -9223372036854775808 ∨ 9223372036854775807 < a + b) : (!(decide (a < wrap64 (a + b)) == decide (0 < b))) = true := by
  refine bne_yes ?_
  unfold wrap64
  omega

/-! ### Products -/
/-- The sign of a product of two numbers that are not 0. -/
theorem mul_sign (a b : Int) (ha : ¬ a = 0) (hb : ¬ b = 0) : a * b < 0 ↔ ¬ (a < 0 ↔ b < 0) := by
  rcases Int.lt_or_gt_of_ne ha with h | h <;> rcases Int.lt_or_gt_of_ne hb with k | k
  · have := Int.mul_pos_of_neg_of_neg h k; omega
  · have := Int.mul_neg_of_neg_of_pos h k; omega
  · have := Int.mul_neg_of_pos_of_neg h k; omega
  · have := Int.mul_pos h k; omega

/-- Of a product that is no int64: what is left of it, divided by b, is not a; or its sign is wrong. -/
theorem mul_over (a b : Int) (a1 : -9223372036854775808 ≤ a) (a2 : a ≤ 9223372036854775807) (b1 : -9223372036854775808 ≤ b) (b2 : b ≤ 9223372036854775807)
    (ha : ¬ a = 0) (hb : ¬ b = 0) (h : a * b < -9223372036854775808 ∨ 9223372036854775807 < a * b)
    (hq : wrap64 ((wrap64 (a * b)).tdiv b) = a) : ¬ (wrap64 (a * b) < 0 ↔ ¬ (a < 0 ↔ b < 0)) := by
  have hp : ∃ k : Int, wrap64 (a * b) = a * b + 18446744073709551616 * k ∧ -9223372036854775808 ≤ wrap64 (a * b) ∧ wrap64 (a * b) ≤ 9223372036854775807 := by
    refine ⟨-((a * b + 9223372036854775808) / 18446744073709551616), ?_⟩
    unfold wrap64; omega
  obtain ⟨k, hk, hk1, hk2⟩ := hp
  generalize wrap64 (a * b) = p at *
  have e1 := Int.mul_tdiv_add_tmod p b
  have hr : (p.tmod b).natAbs < b.natAbs := by
    have := Int.natAbs_tmod p b
    rw [this]; exact Nat.mod_lt _ (by omega)
  have hql : (p.tdiv b).natAbs ≤ p.natAbs := by rw [Int.natAbs_tdiv]; exact Nat.div_le_self _ _
  by_cases hin : p.tdiv b ≤ 9223372036854775807
  · rw [IntWalk.wrap64_in _ ⟨by omega, hin⟩] at hq
    rw [hq] at e1
    have e2 : b * a = a * b := Int.mul_comm _ _
    omega
  · have hw : wrap64 (p.tdiv b) = -9223372036854775808 := by unfold wrap64; omega
    have hpe : p = -9223372036854775808 := by omega
    have hae : a = -9223372036854775808 := by omega
    have hbe : b < 0 := by
      apply Classical.byContradiction; intro hnb
      have : p.tdiv b ≤ 0 := by
        have := Int.tdiv_nonneg (show 0 ≤ -p by omega) (show 0 ≤ b by omega)
        rw [Int.neg_tdiv] at this; omega
      omega
    omega

theorem sign_no {p q r : Prop} [Decidable p] [Decidable q] [Decidable r] (h : p ↔ ¬ (q ↔ r)) : (!(decide p == !(decide q == decide r))) = false := by
  by_cases hp : p <;> by_cases hq : q <;> by_cases hr : r <;> simp_all
theorem sign_yes {p q r : Prop} [Decidable p] [Decidable q] [Decidable r] (h : ¬ (p ↔ ¬ (q ↔ r))) : (!(decide p == !(decide q == decide r))) = true := by
  by_cases hp : p <;> by_cases hq : q <;> by_cases hr : r <;> simp_all

/-! ### Sizes and signs -/
/-- The size of a number, without its sign. -/
def sz (a : Int) : Int := (a.natAbs : Int)
theorem sz_mul (a b : Int) : sz a * sz b = sz (a * b) := by unfold sz; rw [Int.natAbs_mul]; rfl
theorem sz_pos {a : Int} (h : ¬ a = 0) : 1 ≤ sz a := by unfold sz; omega
theorem sz_le {a : Int} (h1 : -9223372036854775808 ≤ a) (h2 : a ≤ 9223372036854775807) : sz a ≤ 9223372036854775808 := by unfold sz; omega
theorem sz_neg {a : Int} (h : a < 0) : sz a = -a := by unfold sz; omega
theorem sz_nonneg {a : Int} (h : 0 ≤ a) : sz a = a := by unfold sz; omega
theorem quo_lt {m x y : Int} (hy : 1 ≤ y) : m / y < x ↔ m < x * y := Int.ediv_lt_iff_lt_mul (by omega)

theorem getD_lt {α : Type} {l : List α} {k : Nat} (d : α) (h : k < l.length) : l.getD k d = l[k] := by
  rw [List.getD_eq_getElem?_getD, List.getElem?_eq_getElem h, Option.getD_some]
theorem getD_mem {α : Type} {l : List α} {k : Nat} (d : α) (h : k < l.length) : l.getD k d ∈ l := by
  rw [getD_lt d h]; exact List.getElem_mem h

end Go.Proofs.Ytjcmjlkihfcdcaa.plain
