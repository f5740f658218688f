/-
  What the statements of clock ask first, and the reference's Right.
-/
import Derived.Test.YtipafnggeckojaaAll
namespace Go.Proofs.Ytipafnggeckojaa.clock
open Go.RowKit
set_option linter.unusedVariables false

theorem awake_val : applyP 10 0 3 2 0 = (5, 0, 0) := by decide +kernel

theorem awake02 (w : World) :
    Calls Try.prog 6 #[] w fun e w' => e = .returned (.bool true) ∧ Below w.heap.size w w' := by
  have L := fun w => apply_any 10 0 3 2 0 w
  simp only [awake_val, ansT, ansC] at L
  have HL := Lib.hid L
  clear L
  go_enter Try.func6, Try.ntmps6
  go_wp2_with (go_at_call 11; (with_reducible refine (HL.out _).mono ?_); rintro e w1 ⟨rfl, hb1⟩; obtain ⟨hc1, hf1⟩ := arith.bcell hb1)
  go_ret
  exact ⟨rfl, hb1.alloc hb1.size _⟩

theorem refRight_any (p f : Int) (w : World) :
    Calls Try.prog 8 #[.agg #[.int .i64 p, .int .i64 f]] w fun e w' => e = .returned (.bool (rightB p f)) ∧ Below w.heap.size w w' := by
  by_cases h1 : 0 < p
  · by_cases h2 : p ≤ 2000
    · by_cases h3 : 0 ≤ f
      · by_cases h4 : f ≤ 2000
        · have E := Lib.hid (right_yes (p := p) (f := f) (by omega))
          go_enter Try.func8, Try.ntmps8
          go_wp2
          go_ret
          exact ⟨bool_eq (by rw [E.out]), box1 _⟩
        · have E := Lib.hid (right_no (p := p) (f := f) (by omega))
          have h4' : 2000 < f := by omega
          have b : decide (f ≤ 2000) = false := decide_eq_false h4
          clear h4
          go_enter Try.func8, Try.ntmps8
          go_wp2
          go_ret
          exact ⟨bool_eq (by rw [E.out]; try (simp; omega)), box1 _⟩
      · have E := Lib.hid (right_no (p := p) (f := f) (by omega))
        have h3' : f < 0 := by omega
        have b : decide (0 ≤ f) = false := decide_eq_false h3
        clear h3
        go_enter Try.func8, Try.ntmps8
        go_wp2
        go_ret
        exact ⟨bool_eq (by rw [E.out]; try (simp; omega)), box1 _⟩
    · have E := Lib.hid (right_no (p := p) (f := f) (by omega))
      have h2' : 2000 < p := by omega
      have b : decide (p ≤ 2000) = false := decide_eq_false h2
      clear h2
      go_enter Try.func8, Try.ntmps8
      go_wp2
      go_ret
      exact ⟨bool_eq (by rw [E.out]; try (simp; omega)), box1 _⟩
  · have E := Lib.hid (right_no (p := p) (f := f) (by omega))
    have h1' : p ≤ 0 := by omega
    have b : decide (0 < p) = false := decide_eq_false h1
    clear h1
    go_enter Try.func8, Try.ntmps8
    go_wp2
    go_ret
    exact ⟨bool_eq (by rw [E.out]; try (simp; omega)), box1 _⟩

/-! ### ClockDates -/
theorem dates_yes (p f n : Int) (w : World) (h : 1 ≤ p ∧ p ≤ 2000 ∧ 0 ≤ f ∧ f ≤ 2000) (h1 : 0 ≤ n) (h2 : n ≤ 1099511627776) :
    Calls Try.prog 4 #[.agg #[.int .i64 p, .int .i64 f], .int .i64 n] w fun e w' => e = .returned (.bool true) ∧ Below w.heap.size w w' := by
  have m1 : 0 ≤ n * p := Int.mul_nonneg h1 (by omega)
  have m2 : n * p ≤ 1099511627776 * 2000 := Int.mul_le_mul h2 (by omega) (by omega) (by omega)
  have v1 : wrap64 (n * p) = n * p := IntWalk.wrap64_in _ (by omega)
  have HD := Lib.hid (fun w => date_yes p f n w h h1 h2)
  have HR := Lib.hid (fun w => refRight_any p f w)
  rw [right_yes h] at HR
  have p1 := h.1
  have f1 := h.2.2.1
  have f2 := h.2.2.2
  clear h
  go_enter Try.func4, Try.ntmps4
  go_wp2_with (first | (go_at_call 9; (with_reducible refine (HD.out _).mono ?_); rintro e w1 ⟨rfl, hb1⟩; obtain ⟨hc1, hf1⟩ := arith.bcell hb1; have a1 : w.heap.size < w1.heap.size := sz_of hb1 (by simp)) | (go_at_call 8; (with_reducible refine (HR.out _).mono ?_); rintro e w2 ⟨rfl, hb2⟩; obtain ⟨hc2, hf2⟩ := arith.bcell hb2; have a2 : w.heap.size < w2.heap.size := sz_of hb2 a1) | (go_at_call 6; (with_reducible refine (awake02 _).mono ?_); rintro e w3 ⟨rfl, hb3⟩; obtain ⟨hc3, hf3⟩ := arith.bcell hb3; have a3 : w.heap.size < w3.heap.size := sz_of hb3 a2))
  go_ret
  exact ⟨rfl, (by repeat (first | exact Below.refl _ _ | (refine Below.alloc ?_ (by first | omega | (simp; done) | (simp; omega)) _) | (refine arith.below_drewN ?_ _) | (refine Below.trans ?_ (hb3.mono (by first | omega | (simp; done) | (simp; omega)))) | (refine Below.trans ?_ (hb2.mono (by first | omega | (simp; done) | (simp; omega)))) | (refine Below.trans ?_ (hb1.mono (by first | omega | (simp; done) | (simp; omega))))))⟩

theorem dates_no (p f n : Int) (w : World) (h : ¬ ((1 ≤ p ∧ p ≤ 2000 ∧ 0 ≤ f ∧ f ≤ 2000) ∧ 0 ≤ n ∧ n ≤ 1099511627776)) :
    Calls Try.prog 4 #[.agg #[.int .i64 p, .int .i64 f], .int .i64 n] w fun e w' => e = .returned (.bool true) ∧ Below w.heap.size w w' := by
  have HD := Lib.hid (fun w => date_no p f n w h)
  have HR := Lib.hid (fun w => refRight_any p f w)
  by_cases hr : 1 ≤ p ∧ p ≤ 2000 ∧ 0 ≤ f ∧ f ≤ 2000
  · rw [right_yes hr] at HR
    have hn : n < 0 ∨ 1099511627776 < n := by omega
    clear h hr
    rcases hn with hn | hn
    all_goals
      go_enter Try.func4, Try.ntmps4
      go_wp2_with (first | (go_at_call 9; (with_reducible refine (HD.out _).mono ?_); rintro e w1 ⟨rfl, hb1⟩; obtain ⟨hc1, hf1⟩ := arith.bcell hb1; have a1 : w.heap.size < w1.heap.size := sz_of hb1 (by simp)) | (go_at_call 8; (with_reducible refine (HR.out _).mono ?_); rintro e w2 ⟨rfl, hb2⟩; obtain ⟨hc2, hf2⟩ := arith.bcell hb2; have a2 : w.heap.size < w2.heap.size := sz_of hb2 a1) | (go_at_call 6; (with_reducible refine (awake02 _).mono ?_); rintro e w3 ⟨rfl, hb3⟩; obtain ⟨hc3, hf3⟩ := arith.bcell hb3; have a3 : w.heap.size < w3.heap.size := sz_of hb3 a2))
      all_goals
        go_ret
        exact ⟨rfl, (by repeat (first | exact Below.refl _ _ | (refine Below.alloc ?_ (by first | omega | (simp; done) | (simp; omega)) _) | (refine arith.below_drewN ?_ _) | (refine Below.trans ?_ (hb3.mono (by first | omega | (simp; done) | (simp; omega)))) | (refine Below.trans ?_ (hb2.mono (by first | omega | (simp; done) | (simp; omega)))) | (refine Below.trans ?_ (hb1.mono (by first | omega | (simp; done) | (simp; omega))))))⟩
  · rw [right_no hr] at HR
    clear h hr
    go_enter Try.func4, Try.ntmps4
    go_wp2_with (first | (go_at_call 9; (with_reducible refine (HD.out _).mono ?_); rintro e w1 ⟨rfl, hb1⟩; obtain ⟨hc1, hf1⟩ := arith.bcell hb1; have a1 : w.heap.size < w1.heap.size := sz_of hb1 (by simp)) | (go_at_call 8; (with_reducible refine (HR.out _).mono ?_); rintro e w2 ⟨rfl, hb2⟩; obtain ⟨hc2, hf2⟩ := arith.bcell hb2; have a2 : w.heap.size < w2.heap.size := sz_of hb2 a1) | (go_at_call 6; (with_reducible refine (awake02 _).mono ?_); rintro e w3 ⟨rfl, hb3⟩; obtain ⟨hc3, hf3⟩ := arith.bcell hb3; have a3 : w.heap.size < w3.heap.size := sz_of hb3 a2))
    go_ret
    exact ⟨rfl, (by repeat (first | exact Below.refl _ _ | (refine Below.alloc ?_ (by first | omega | (simp; done) | (simp; omega)) _) | (refine arith.below_drewN ?_ _) | (refine Below.trans ?_ (hb3.mono (by first | omega | (simp; done) | (simp; omega)))) | (refine Below.trans ?_ (hb2.mono (by first | omega | (simp; done) | (simp; omega)))) | (refine Below.trans ?_ (hb1.mono (by first | omega | (simp; done) | (simp; omega))))))⟩

end Go.Proofs.Ytipafnggeckojaa.clock
