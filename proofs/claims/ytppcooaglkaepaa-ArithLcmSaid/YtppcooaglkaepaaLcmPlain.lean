/-
  Plain facts on the least common multiple as the text reckons it; slices that stay.
-/
import Derived.Test.YtppcooaglkaepaaGcdPlain
namespace Go.Proofs.Ytppcooaglkaepaa.arith
open Go.RowKit
set_option linter.unusedVariables false

theorem gcdOf_one_left (x : Int) : gcdOf 1 x = 1 := by unfold gcdOf; rw [show (1 : Int).toNat = 1 from rfl, Nat.gcd_one_left]; rfl

theorem dvd_step {c x : Int} (hc : 1 ≤ c) (hx : 1 ≤ x) : c ∣ c / gcdOf c x * x ∧ x ∣ c / gcdOf c x * x := by
  refine ⟨?_, ⟨c / gcdOf c x, Int.mul_comm _ _⟩⟩
  have h1 : gcdOf c x ∣ c := Int.dvd_of_emod_eq_zero (gcdOf_left hc)
  have h2 : gcdOf c x ∣ x := Int.dvd_of_emod_eq_zero (gcdOf_right hx)
  have hg := gcdOf_pos (x := x) hc
  generalize gcdOf c x = g at *
  obtain ⟨c', rfl⟩ := h1
  obtain ⟨x', rfl⟩ := h2
  rw [Int.mul_ediv_cancel_left _ (by omega)]
  exact ⟨x', by rw [← Int.mul_assoc, Int.mul_comm c' g]⟩

theorem lcmFrom_some {l : List Int} : ∀ {c r : Int}, 1 ≤ c → c ≤ 9223372036854775807 → lcmFrom c l = some r → c ∣ r ∧ 1 ≤ r ∧ r ≤ 9223372036854775807 ∧ ∀ x ∈ l, 1 ≤ x ∧ x ∣ r := by
  induction l with
  | nil =>
    intro c r hc hc2 h
    rw [lcmFrom] at h
    obtain rfl : c = r := by simpa using h
    exact ⟨Int.dvd_refl _, hc, hc2, by simp⟩
  | cons x l ih =>
    intro c r hc hc2 h
    rw [lcmFrom] at h
    by_cases hx : x < 1
    · rw [if_pos hx] at h; cases h
    · rw [if_neg hx] at h
      by_cases ho : 9223372036854775807 < c / gcdOf c x * x
      · rw [if_pos ho] at h; cases h
      · rw [if_neg ho] at h
        have hx1 : 1 ≤ x := by omega
        have hp := mul_pos1 (quo_pos (x := x) hc) hx1
        obtain ⟨h1, h2, h3, h4⟩ := ih hp (by omega) h
        have hd := dvd_step hc hx1
        refine ⟨Int.dvd_trans hd.1 h1, h2, h3, ?_⟩
        intro y hy
        rcases List.mem_cons.1 hy with rfl | hy
        · exact ⟨hx1, Int.dvd_trans hd.2 h1⟩
        · exact h4 y hy

theorem lcm_two {x y r : Int} (h : lcmFrom 1 [x, y] = some r) : r = x / gcdOf x y * y := by
  rw [lcmFrom] at h
  by_cases hx : x < 1
  · rw [if_pos hx] at h; cases h
  · rw [if_neg hx, gcdOf_one_left, show (1 : Int) / 1 * x = x by omega] at h
    split at h
    · cases h
    · rw [lcmFrom] at h
      split at h
      · cases h
      · split at h
        · cases h
        · rw [lcmFrom] at h
          exact (Option.some.inj h).symm

/-- A slice that was there reads as it did. -/
theorem IntsAt.below {w w1 : World} {v : Value} {l : List Int} (h : IntsAt w v l) (hb : Below w.heap.size w w1) : IntsAt w1 v l := by
  rcases h with ⟨a, cap, h1, h2⟩ | ⟨b, off, cap, h1, h2⟩
  · exact .inl ⟨a, cap, h1, h2⟩
  · refine .inr ⟨b, off, cap, h1, fun k hk => ?_⟩
    have hc := h2 k hk
    rw [hb.cell (p := ⟨b, off + k, none⟩) (block_lt_of_cell hc), hc]

end Go.Proofs.Ytppcooaglkaepaa.arith
