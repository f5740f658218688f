/-
  Plain facts on the greatest common divisor of two numbers from 1 on.
-/
import Derived.Test.YtppcooaglkaepaaRef01
namespace Go.Proofs.Ytppcooaglkaepaa.arith
open Go.RowKit
set_option linter.unusedVariables false

theorem gcdOf_comm (a b : Int) : gcdOf a b = gcdOf b a := by unfold gcdOf; rw [Nat.gcd_comm]

theorem gcdOf_low {a b : Int} (h : a < 1 ∨ b < 1) : gcdOf a b = max (max a b) 0 := by
  unfold gcdOf
  rcases h with h | h
  · rw [show a.toNat = 0 by omega, Nat.gcd_zero_left]; omega
  · rw [show b.toNat = 0 by omega, Nat.gcd_zero_right]; omega

theorem mod_of_dvd {a g : Int} {n m : Nat} (ha : a = n) (hg : g = m) (h : m ∣ n) : a % g = 0 := by
  subst ha hg; exact Int.emod_eq_zero_of_dvd (Int.ofNat_dvd.2 h)
theorem dvd_of_mod {a g : Int} {n m : Nat} (ha : a = n) (hg : g = m) (h : a % g = 0) : m ∣ n := by
  subst ha hg; exact Int.ofNat_dvd.1 (Int.dvd_of_emod_eq_zero h)

theorem gcdOf_left {a b : Int} (ha : 1 ≤ a) : a % gcdOf a b = 0 :=
  mod_of_dvd (show a = ((a.toNat : Nat) : Int) by omega) rfl (Nat.gcd_dvd_left _ _)
theorem gcdOf_right {a b : Int} (hb : 1 ≤ b) : b % gcdOf a b = 0 :=
  mod_of_dvd (show b = ((b.toNat : Nat) : Int) by omega) rfl (Nat.gcd_dvd_right _ _)

theorem quo_cast {a b : Int} (ha : 1 ≤ a) : a / gcdOf a b = ((a.toNat / Nat.gcd a.toNat b.toNat : Nat) : Int) := by
  unfold gcdOf
  rw [show a / ((Nat.gcd a.toNat b.toNat : Nat) : Int) = ((a.toNat : Nat) : Int) / ((Nat.gcd a.toNat b.toNat : Nat) : Int) by rw [Int.toNat_of_nonneg (by omega)]]
  exact (Int.natCast_ediv _ _).symm
theorem quo_cast' {a b : Int} (hb : 1 ≤ b) : b / gcdOf a b = ((b.toNat / Nat.gcd a.toNat b.toNat : Nat) : Int) := by
  have := quo_cast (a := b) (b := a) hb
  rw [gcdOf_comm b a, Nat.gcd_comm] at this; exact this

theorem gcdOf_one {a b : Int} (ha : 1 ≤ a) (hb : 1 ≤ b) : gcdOf (a / gcdOf a b) (b / gcdOf a b) = 1 := by
  rw [quo_cast ha, quo_cast' hb]
  unfold gcdOf
  rw [Int.toNat_natCast, Int.toNat_natCast, Nat.gcd_div_gcd_div_gcd_of_pos_left (by omega)]
  rfl

theorem none_else {a b d : Int} (ha : 1 ≤ a) (hb : 1 ≤ b) (hd : 2 ≤ d) : ¬ (a / gcdOf a b % d = 0 ∧ b / gcdOf a b % d = 0) := by
  intro ⟨h1, h2⟩
  have e1 := dvd_of_mod (quo_cast ha) (show d = ((d.toNat : Nat) : Int) by omega) h1
  have e2 := dvd_of_mod (quo_cast' hb) (show d = ((d.toNat : Nat) : Int) by omega) h2
  have e3 := Nat.dvd_gcd e1 e2
  rw [Nat.gcd_div_gcd_div_gcd_of_pos_left (by omega)] at e3
  have := Nat.le_of_dvd (by omega) e3
  omega

theorem quo_pos' {a b : Int} (ha : 1 ≤ a) (hb : 1 ≤ b) : 1 ≤ b / gcdOf a b := by
  have := quo_pos (c := b) (x := a) hb
  rw [gcdOf_comm b a] at this; exact this
theorem quo_le' {a b : Int} (hb : 1 ≤ b) : b / gcdOf a b ≤ b := by
  have := quo_le (c := b) (x := a) hb
  rw [gcdOf_comm b a] at this; exact this

theorem divides_yes (d a b : Int) (w : World) (hd : 1 ≤ d) (ha : 0 ≤ a) (hb : 0 ≤ b) (a2 : a ≤ 9223372036854775807) (b2 : b ≤ 9223372036854775807) (d2 : d ≤ 9223372036854775807)
    (h1 : a % d = 0) (h2 : b % d = 0) :
    Calls Try.prog 13 #[.int .i64 d, .int .i64 a, .int .i64 b] w fun e w' => e = .returned (.bool true) ∧ ∃ m, w' = w.drewN m := by
  have t1 : (a % d == 0) = true := by simpa using h1
  have t2 : (b % d == 0) = true := by simpa using h2
  clear h1 h2
  go_enter Try.func13, Try.ntmps13
  go_wp2
  go_ret
  exact ⟨rfl, 0, rfl⟩

theorem divides_no (d a b : Int) (w : World) (hd : 1 ≤ d) (ha : 0 ≤ a) (hb : 0 ≤ b) (a2 : a ≤ 9223372036854775807) (b2 : b ≤ 9223372036854775807) (d2 : d ≤ 9223372036854775807)
    (h : ¬ (a % d = 0 ∧ b % d = 0)) :
    Calls Try.prog 13 #[.int .i64 d, .int .i64 a, .int .i64 b] w fun e w' => e = .returned (.bool false) ∧ ∃ m, w' = w.drewN m := by
  by_cases h1 : a % d = 0
  · have t1 : (a % d == 0) = true := by simpa using h1
    have t2 : (b % d == 0) = false := by
      have : ¬ b % d = 0 := fun x => h ⟨h1, x⟩
      simpa using this
    clear h1 h
    go_enter Try.func13, Try.ntmps13
    go_wp2
    go_ret
    exact ⟨rfl, 0, rfl⟩
  · have t1 : (a % d == 0) = false := by simpa using h1
    clear h1 h
    go_enter Try.func13, Try.ntmps13
    go_wp2
    go_ret
    exact ⟨rfl, 0, rfl⟩

end Go.Proofs.Ytppcooaglkaepaa.arith
