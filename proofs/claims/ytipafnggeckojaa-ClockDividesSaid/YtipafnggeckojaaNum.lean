/-
  Plain facts on greatest common divisors and least common multiples, over the contracts of arith alone; slices of int64s that stay.
-/
import Derived.Test.YtipafnggeckojaaGcd
import Derived.Below
namespace Go.Proofs.Ytipafnggeckojaa.arith
open Go.RowKit
set_option linter.unusedVariables false

theorem below_drewN {B : Nat} {a w : World} (h : Below B a w) (n : Nat) : Below B a (w.drewN n) := ⟨h.os, h.tape, h.output, h.size, h.block⟩
theorem below_of_drewN {B : Nat} {a w : World} {n : Nat} (h : Below B (a.drewN n) w) : Below B a w := ⟨h.os, h.tape, h.output, h.size, h.block⟩
theorem of_below {w w1 : World} {n : Nat} (h : Below (w.drewN n).heap.size (w.drewN n) w1) : Below w.heap.size w w1 := below_of_drewN h
theorem bcell {W w1 : World} (hb : Below W.heap.size W w1) : (∀ b o, b < W.heap.size → w1.cell? ⟨b, o, none⟩ = W.cell? ⟨b, o, none⟩) ∧ (∀ b o, b < W.heap.size → w1.frozen? ⟨b, o, none⟩ = W.frozen? ⟨b, o, none⟩) :=
  ⟨fun b o h => hb.cell (p := ⟨b, o, none⟩) h, fun b o h => hb.frozen (p := ⟨b, o, none⟩) h⟩
theorem bool_true {b : Bool} (h : b = true) : Ending.returned (.bool b) = .returned (.bool true) := by rw [h]

theorem gcdOf_comm (a b : Int) : gcdOf a b = gcdOf b a := by unfold gcdOf; rw [Nat.gcd_comm]

theorem gcdOf_low {a b : Int} (h : a < 1 ∨ b < 1) : gcdOf a b = max (max a b) 0 := by
  unfold gcdOf
  rcases h with h | h
  · rw [show a.toNat = 0 by omega, Nat.gcd_zero_left]; omega
  · rw [show b.toNat = 0 by omega, Nat.gcd_zero_right]; omega

theorem mod_of_dvd {a g : Int} {n m : Nat} (ha : a = n) (hg : g = m) (h : m ∣ n) : a % g = 0 := by
  subst ha hg; exact Int.emod_eq_zero_of_dvd (Int.ofNat_dvd.2 h)
theorem dvd_of_mod {a g : Int} {n m : Nat} (ha : a = n) (hg : g = m) (h : a % g = 0) : m ∣ n := by
  subst ha hg; exact Int.ofNat_dvd.1 (Int.dvd_of_emod_eq_zero h)

theorem gcdOf_left {a b : Int} (ha : 1 ≤ a) : a % gcdOf a b = 0 :=
  mod_of_dvd (show a = ((a.toNat : Nat) : Int) by omega) rfl (Nat.gcd_dvd_left _ _)
theorem gcdOf_right {a b : Int} (hb : 1 ≤ b) : b % gcdOf a b = 0 :=
  mod_of_dvd (show b = ((b.toNat : Nat) : Int) by omega) rfl (Nat.gcd_dvd_right _ _)

theorem quo_cast {a b : Int} (ha : 1 ≤ a) : a / gcdOf a b = ((a.toNat / Nat.gcd a.toNat b.toNat : Nat) : Int) := by
  unfold gcdOf
  rw [show a / ((Nat.gcd a.toNat b.toNat : Nat) : Int) = ((a.toNat : Nat) : Int) / ((Nat.gcd a.toNat b.toNat : Nat) : Int) by rw [Int.toNat_of_nonneg (by omega)]]
  exact (Int.natCast_ediv _ _).symm
theorem quo_cast' {a b : Int} (hb : 1 ≤ b) : b / gcdOf a b = ((b.toNat / Nat.gcd a.toNat b.toNat : Nat) : Int) := by
  have := quo_cast (a := b) (b := a) hb
  rw [gcdOf_comm b a, Nat.gcd_comm] at this; exact this

theorem gcdOf_one {a b : Int} (ha : 1 ≤ a) (hb : 1 ≤ b) : gcdOf (a / gcdOf a b) (b / gcdOf a b) = 1 := by
  rw [quo_cast ha, quo_cast' hb]
  unfold gcdOf
  rw [Int.toNat_natCast, Int.toNat_natCast, Nat.gcd_div_gcd_div_gcd_of_pos_left (by omega)]
  rfl

theorem none_else {a b d : Int} (ha : 1 ≤ a) (hb : 1 ≤ b) (hd : 2 ≤ d) : ¬ (a / gcdOf a b % d = 0 ∧ b / gcdOf a b % d = 0) := by
  intro ⟨h1, h2⟩
  have e1 := dvd_of_mod (quo_cast ha) (show d = ((d.toNat : Nat) : Int) by omega) h1
  have e2 := dvd_of_mod (quo_cast' hb) (show d = ((d.toNat : Nat) : Int) by omega) h2
  have e3 := Nat.dvd_gcd e1 e2
  rw [Nat.gcd_div_gcd_div_gcd_of_pos_left (by omega)] at e3
  have := Nat.le_of_dvd (by omega) e3
  omega

theorem quo_pos' {a b : Int} (ha : 1 ≤ a) (hb : 1 ≤ b) : 1 ≤ b / gcdOf a b := by
  have := quo_pos (c := b) (x := a) hb
  rw [gcdOf_comm b a] at this; exact this
theorem quo_le' {a b : Int} (hb : 1 ≤ b) : b / gcdOf a b ≤ b := by
  have := quo_le (c := b) (x := a) hb
  rw [gcdOf_comm b a] at this; exact this

theorem gcdOf_one_left (x : Int) : gcdOf 1 x = 1 := by unfold gcdOf; rw [show (1 : Int).toNat = 1 from rfl, Nat.gcd_one_left]; rfl

theorem dvd_step {c x : Int} (hc : 1 ≤ c) (hx : 1 ≤ x) : c ∣ c / gcdOf c x * x ∧ x ∣ c / gcdOf c x * x := by
  refine ⟨?_, ⟨c / gcdOf c x, Int.mul_comm _ _⟩⟩
  have h1 : gcdOf c x ∣ c := Int.dvd_of_emod_eq_zero (gcdOf_left hc)
  have h2 : gcdOf c x ∣ x := Int.dvd_of_emod_eq_zero (gcdOf_right hx)
  have hg := gcdOf_pos (x := x) hc
  generalize gcdOf c x = g at *
  obtain ⟨c', rfl⟩ := h1
  obtain ⟨x', rfl⟩ := h2
  rw [Int.mul_ediv_cancel_left _ (by omega)]
  exact ⟨x', by rw [← Int.mul_assoc, Int.mul_comm c' g]⟩

theorem lcmFrom_some {l : List Int} : ∀ {c r : Int}, 1 ≤ c → c ≤ 9223372036854775807 → lcmFrom c l = some r → c ∣ r ∧ 1 ≤ r ∧ r ≤ 9223372036854775807 ∧ ∀ x ∈ l, 1 ≤ x ∧ x ∣ r := by
  induction l with
  | nil =>
    intro c r hc hc2 h
    rw [lcmFrom] at h
    obtain rfl : c = r := by simpa using h
    exact ⟨Int.dvd_refl _, hc, hc2, by simp⟩
  | cons x l ih =>
    intro c r hc hc2 h
    rw [lcmFrom] at h
    by_cases hx : x < 1
    · rw [if_pos hx] at h; cases h
    · rw [if_neg hx] at h
      by_cases ho : 9223372036854775807 < c / gcdOf c x * x
      · rw [if_pos ho] at h; cases h
      · rw [if_neg ho] at h
        have hx1 : 1 ≤ x := by omega
        have hp := mul_pos1 (quo_pos (x := x) hc) hx1
        obtain ⟨h1, h2, h3, h4⟩ := ih hp (by omega) h
        have hd := dvd_step hc hx1
        refine ⟨Int.dvd_trans hd.1 h1, h2, h3, ?_⟩
        intro y hy
        rcases List.mem_cons.1 hy with rfl | hy
        · exact ⟨hx1, Int.dvd_trans hd.2 h1⟩
        · exact h4 y hy

theorem lcm_two {x y r : Int} (h : lcmFrom 1 [x, y] = some r) : r = x / gcdOf x y * y := by
  rw [lcmFrom] at h
  by_cases hx : x < 1
  · rw [if_pos hx] at h; cases h
  · rw [if_neg hx, gcdOf_one_left, show (1 : Int) / 1 * x = x by omega] at h
    split at h
    · cases h
    · rw [lcmFrom] at h
      split at h
      · cases h
      · split at h
        · cases h
        · rw [lcmFrom] at h
          exact (Option.some.inj h).symm

/-- A slice that was there reads as it did. -/
theorem IntsAt.below {w w1 : World} {v : Value} {l : List Int} (h : IntsAt w v l) (hb : Below w.heap.size w w1) : IntsAt w1 v l := by
  rcases h with ⟨a, cap, h1, h2⟩ | ⟨b, off, cap, h1, h2⟩
  · exact .inl ⟨a, cap, h1, h2⟩
  · refine .inr ⟨b, off, cap, h1, fun k hk => ?_⟩
    have hc := h2 k hk
    rw [hb.cell (p := ⟨b, off + k, none⟩) (block_lt_of_cell hc), hc]

end Go.Proofs.Ytipafnggeckojaa.arith
