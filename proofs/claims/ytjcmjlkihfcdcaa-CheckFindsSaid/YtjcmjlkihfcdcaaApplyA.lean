/-
  Contract of the package clock's Apply, as one function of numbers.
-/
import Derived.Test.YtjcmjlkihfcdcaaApply2
namespace Go.Proofs.Ytjcmjlkihfcdcaa.clock
open Go.RowKit
set_option linter.unusedVariables false

def fin (p f : Int) : Int × Int × Int := if f ≤ 2000 then (p, f, 0) else (0, 0, 7)
/-- What an operator makes of a clock: period, phase, error. -/
def applyP (p f k n d : Int) : Int × Int × Int :=
  if rightB p f = false ∨ k < 3 ∨ 8 < k then (0, 0, 12)
  else if facB k n d = false then (0, 0, 7)
  else if k = 3 then (if p % n = 0 then (p / n, f, 0) else (0, 0, 5))
  else if k = 4 then (if p * n ≤ 2000 then (p * n, f, 0) else (0, 0, 7))
  else if k = 5 then (if p * n % d = 0 then fin p (f + p * n / d) else (0, 0, 5))
  else if k = 6 then (p, f, 0)
  else if k = 7 then fin p (f + p)
  else if p ≤ f then (p, f - p, 0) else (0, 0, 5)

def ansT (r : Int × Int × Int) : Value := ansC r.1 r.2.1 r.2.2

theorem fac34 {k n d : Int} (hk : k = 3 ∨ k = 4) (h : facB k n d = true) : 1 ≤ n ∧ n ≤ 100 := by
  unfold facB at h; have := of_decide_eq_true h; omega
theorem fac5 {n d : Int} (h : facB 5 n d = true) : 1 ≤ d ∧ d ≤ 100 ∧ 0 ≤ n ∧ n ≤ 100 := by
  unfold facB at h; have := of_decide_eq_true h; omega

theorem quo_right {p n : Int} (h1 : 1 ≤ p) (h2 : p ≤ 2000) (hn : 1 ≤ n) (hz : p % n = 0) : 1 ≤ p / n ∧ p / n ≤ 2000 := by
  have h := plain.ediv_le p n hn
  have h' := h.1 (by omega)
  refine ⟨?_, by omega⟩
  apply Classical.byContradiction; intro hlt
  have h0 : p / n = 0 := by omega
  have := Int.ediv_mul_add_emod p n
  rw [h0, hz] at this; omega
theorem mul_ge {p n : Int} (h1 : 1 ≤ p) (hn : 1 ≤ n) : 1 ≤ p * n := arith.mul_pos1 h1 hn

theorem apply_any (p f k n d : Int) (w : World) :
    Calls Try.prog 52 #[.agg #[.int .i64 p, .int .i64 f], .agg #[.int .i64 k, .int .i64 n, .int .i64 d]] w fun e w' =>
      e = .returned (ansT (applyP p f k n d)) ∧ Below w.heap.size w w' := by
  by_cases h : 1 ≤ p ∧ p ≤ 2000 ∧ 0 ≤ f ∧ f ≤ 2000
  · have hR := right_yes h
    by_cases hk : k < 3 ∨ 8 < k
    · have e : applyP p f k n d = (0, 0, 12) := by unfold applyP; rw [if_pos (.inr hk)]
      rw [e]; exact apply_kind p f k n d w h hk
    · have hk' : 3 ≤ k ∧ k ≤ 8 := by omega
      have n1 : ¬ (rightB p f = false ∨ k < 3 ∨ 8 < k) := by rw [hR]; simp; omega
      cases hn : facB k n d with
      | false =>
        have e : applyP p f k n d = (0, 0, 7) := by unfold applyP; rw [if_neg n1, if_pos hn]
        rw [e]; exact apply_nofit p f k n d w h hk' hn
      | true =>
        have n2 : ¬ (facB k n d = false) := by rw [hn]; simp
        have p1 := h.1
        have p2 := h.2.1
        have f1 := h.2.2.1
        have f2 := h.2.2.2
        have hcases : k = 3 ∨ k = 4 ∨ k = 5 ∨ k = 6 ∨ k = 7 ∨ k = 8 := by omega
        rcases hcases with rfl | rfl | rfl | rfl | rfl | rfl
        · have hf := fac34 (.inl rfl) hn
          by_cases hz : p % n = 0
          · have q := quo_right p1 p2 hf.1 hz
            have e : applyP p f 3 n d = (p / n, f, 0) := by unfold applyP; rw [if_neg n1, if_neg n2, if_pos rfl, if_pos hz]
            rw [e]
            refine apply_yes p f 3 n d (p / n) f w h hk' hn ⟨q.1, q.2, f1, f2⟩ fun w => ?_
            have := change_over p f n d w (by omega) p2 f1 f2 hf.1 hf.2
            rwa [show (p % n == 0) = true by simpa using hz] at this
          · have e : applyP p f 3 n d = (0, 0, 5) := by unfold applyP; rw [if_neg n1, if_neg n2, if_pos rfl, if_neg hz]
            rw [e]
            refine apply_no p f 3 n d (p / n) f w h hk' hn fun w => ?_
            have := change_over p f n d w (by omega) p2 f1 f2 hf.1 hf.2
            rwa [show (p % n == 0) = false by simpa using hz] at this
        · have hf := fac34 (.inr rfl) hn
          have hm := mul_ge p1 hf.1
          by_cases hz : p * n ≤ 2000
          · have e : applyP p f 4 n d = (p * n, f, 0) := by unfold applyP; rw [if_neg n1, if_neg n2, if_neg (by omega), if_pos rfl, if_pos hz]
            rw [e]
            exact apply_yes p f 4 n d (p * n) f w h hk' hn ⟨hm, hz, f1, f2⟩ fun w => change_under p f n d w (by omega) p2 f1 f2 hf.1 hf.2
          · have e : applyP p f 4 n d = (0, 0, 7) := by unfold applyP; rw [if_neg n1, if_neg n2, if_neg (by omega), if_pos rfl, if_neg hz]
            rw [e]
            exact apply_far p f 4 n d (p * n) f w h hk' hn (by omega) fun w => change_under p f n d w (by omega) p2 f1 f2 hf.1 hf.2
        · have hf := fac5 hn
          by_cases hz : p * n % d = 0
          · have e : applyP p f 5 n d = fin p (f + p * n / d) := by unfold applyP; rw [if_neg n1, if_neg n2, if_neg (by omega), if_neg (by omega), if_pos rfl, if_pos hz]
            have HC : ∀ w, Calls Try.prog 55 #[.agg #[.int .i64 p, .int .i64 f], .agg #[.int .i64 5, .int .i64 n, .int .i64 d]] w fun e w' =>
                e = .returned (.tuple #[.agg #[.int .i64 p, .int .i64 (f + p * n / d)], .bool true]) ∧ Below w.heap.size w w' := fun w => by
              have := change_shift p f n d w (by omega) p2 f1 f2 hf.2.2.1 hf.2.2.2 hf.1 hf.2.1
              rwa [show (p * n % d == 0) = true by simpa using hz] at this
            have hq := Int.ediv_nonneg (Int.mul_nonneg (show 0 ≤ p by omega) hf.2.2.1) (show 0 ≤ d by omega)
            rw [e]; unfold fin
            by_cases hr : f + p * n / d ≤ 2000
            · rw [if_pos hr]; exact apply_yes p f 5 n d p (f + p * n / d) w h hk' hn ⟨p1, p2, by omega, hr⟩ HC
            · rw [if_neg hr]; exact apply_far p f 5 n d p (f + p * n / d) w h hk' hn (by omega) HC
          · have e : applyP p f 5 n d = (0, 0, 5) := by unfold applyP; rw [if_neg n1, if_neg n2, if_neg (by omega), if_neg (by omega), if_pos rfl, if_neg hz]
            rw [e]
            refine apply_no p f 5 n d p (f + p * n / d) w h hk' hn fun w => ?_
            have := change_shift p f n d w (by omega) p2 f1 f2 hf.2.2.1 hf.2.2.2 hf.1 hf.2.1
            rwa [show (p * n % d == 0) = false by simpa using hz] at this
        · have e : applyP p f 6 n d = (p, f, 0) := by unfold applyP; rw [if_neg n1, if_neg n2, if_neg (by omega), if_neg (by omega), if_neg (by omega), if_pos rfl]
          rw [e]; exact apply_yes p f 6 n d p f w h hk' hn h fun w => change_fby p f n d w
        · have e : applyP p f 7 n d = fin p (f + p) := by unfold applyP; rw [if_neg n1, if_neg n2, if_neg (by omega), if_neg (by omega), if_neg (by omega), if_neg (by omega), if_pos rfl]
          rw [e]; unfold fin
          by_cases hr : f + p ≤ 2000
          · rw [if_pos hr]; exact apply_yes p f 7 n d p (f + p) w h hk' hn ⟨p1, p2, by omega, hr⟩ fun w => change_tail p f n d w (by omega) p2 f1 f2
          · rw [if_neg hr]; exact apply_far p f 7 n d p (f + p) w h hk' hn (by omega) fun w => change_tail p f n d w (by omega) p2 f1 f2
        · by_cases hz : p ≤ f
          · have e : applyP p f 8 n d = (p, f - p, 0) := by unfold applyP; rw [if_neg n1, if_neg n2, if_neg (by omega), if_neg (by omega), if_neg (by omega), if_neg (by omega), if_neg (by omega), if_pos hz]
            rw [e]
            refine apply_yes p f 8 n d p (f - p) w h hk' hn ⟨p1, p2, by omega, by omega⟩ fun w => ?_
            have := change_cons p f n d w (by omega) p2 f1 f2
            rwa [show decide (p ≤ f) = true by simpa using hz] at this
          · have e : applyP p f 8 n d = (0, 0, 5) := by unfold applyP; rw [if_neg n1, if_neg n2, if_neg (by omega), if_neg (by omega), if_neg (by omega), if_neg (by omega), if_neg (by omega), if_neg hz]
            rw [e]
            refine apply_no p f 8 n d p (f - p) w h hk' hn fun w => ?_
            have := change_cons p f n d w (by omega) p2 f1 f2
            rwa [show decide (p ≤ f) = false by simpa using hz] at this
  · have e : applyP p f k n d = (0, 0, 12) := by unfold applyP; rw [if_pos (.inl (right_no h))]
    rw [e]; exact apply_wrong p f k n d w h


end Go.Proofs.Ytjcmjlkihfcdcaa.clock
