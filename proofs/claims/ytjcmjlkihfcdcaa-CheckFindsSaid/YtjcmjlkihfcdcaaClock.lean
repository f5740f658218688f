/-
  Contracts of the package clock: within, Right, Date.
-/
import Derived.Test.YtjcmjlkihfcdcaaNumA
namespace Go.Proofs.Ytjcmjlkihfcdcaa.clock
open Go.RowKit
set_option linter.unusedVariables false

/-- Between two bounds, both counted. -/
def wthB (n a b : Int) : Bool := decide (a ≤ n ∧ n ≤ b)
theorem wth_yes {n a b : Int} (h1 : a ≤ n) (h2 : n ≤ b) : wthB n a b = true := by unfold wthB; simp; omega
theorem wth_no {n a b : Int} (h : n < a ∨ b < n) : wthB n a b = false := by unfold wthB; simp; omega
theorem bool_eq {a b : Bool} (h : a = b) : Ending.returned (.bool a) = .returned (.bool b) := by rw [h]

theorem within_any (n a b : Int) (w : World) :
    Calls Try.prog 56 #[.int .i64 n, .int .i64 a, .int .i64 b] w fun e w' => e = .returned (.bool (wthB n a b)) ∧ w = w' := by
  by_cases h1 : a ≤ n
  · by_cases h2 : n ≤ b
    · have E := Lib.hid (wth_yes h1 h2)
      go_enter Try.func56, Try.ntmps56
      go_wp2
      go_ret
      exact ⟨bool_eq (by rw [E.out]; try (simp; omega)), rfl⟩
    · have E := Lib.hid (wth_no (n := n) (a := a) (b := b) (by omega))
      have h2' : b < n := by omega
      clear h2
      go_enter Try.func56, Try.ntmps56
      go_wp2
      go_ret
      exact ⟨bool_eq (by rw [E.out]; try (simp; omega)), rfl⟩
  · have E := Lib.hid (wth_no (n := n) (a := a) (b := b) (by omega))
    have h1' : n < a := by omega
    clear h1
    go_enter Try.func56, Try.ntmps56
    go_wp2
    go_ret
    exact ⟨bool_eq (by rw [E.out]; try (simp; omega)), rfl⟩

theorem within_yes (n a b : Int) (w : World) (h1 : a ≤ n) (h2 : n ≤ b) :
    Calls Try.prog 56 #[.int .i64 n, .int .i64 a, .int .i64 b] w fun e w' => e = .returned (.bool true) ∧ w = w' := by
  have H := within_any n a b w; rwa [wth_yes h1 h2] at H
theorem within_no (n a b : Int) (w : World) (h : n < a ∨ b < n) :
    Calls Try.prog 56 #[.int .i64 n, .int .i64 a, .int .i64 b] w fun e w' => e = .returned (.bool false) ∧ w = w' := by
  have H := within_any n a b w; rwa [wth_no h] at H

/-- A right clock. -/
def rightB (p f : Int) : Bool := decide (1 ≤ p ∧ p ≤ 2000 ∧ 0 ≤ f ∧ f ≤ 2000)
theorem right_yes {p f : Int} (h : 1 ≤ p ∧ p ≤ 2000 ∧ 0 ≤ f ∧ f ≤ 2000) : rightB p f = true := by unfold rightB; simp; omega
theorem right_no {p f : Int} (h : ¬ (1 ≤ p ∧ p ≤ 2000 ∧ 0 ≤ f ∧ f ≤ 2000)) : rightB p f = false := by unfold rightB; simp; omega
theorem right_iff {p f : Int} : rightB p f = true ↔ (1 ≤ p ∧ p ≤ 2000 ∧ 0 ≤ f ∧ f ≤ 2000) := by unfold rightB; simp

theorem right_true (p f : Int) (w : World) (h : 1 ≤ p ∧ p ≤ 2000 ∧ 0 ≤ f ∧ f ≤ 2000) :
    Calls Try.prog 53 #[.agg #[.int .i64 p, .int .i64 f]] w fun e w' => e = .returned (.bool true) ∧ Below w.heap.size w w' := by
  go_enter Try.func53, Try.ntmps53
  go_wp2_with (first | (go_at_call 56; refine (within_yes _ _ _ _ (by omega) (by omega)).mono ?_; rintro e w' ⟨rfl, rfl⟩))
  go_ret
  exact ⟨rfl, (Below.refl _ _).alloc (Nat.le_refl _) _⟩

theorem right_false (p f : Int) (w : World) (h : ¬ (1 ≤ p ∧ p ≤ 2000 ∧ 0 ≤ f ∧ f ≤ 2000)) :
    Calls Try.prog 53 #[.agg #[.int .i64 p, .int .i64 f]] w fun e w' => e = .returned (.bool false) ∧ Below w.heap.size w w' := by
  by_cases hp : 1 ≤ p ∧ p ≤ 2000
  · have hf : f < 0 ∨ 2000 < f := by omega
    clear h
    have HF := Lib.hid (fun w => within_no f 0 2000 w hf)
    go_enter Try.func53, Try.ntmps53
    go_wp2_with (first | (go_at_call 56; with_reducible refine (HF.out _).mono ?_; rintro e w' ⟨rfl, rfl⟩) | (go_at_call 56; refine (within_yes _ _ _ _ (by omega) (by omega)).mono ?_; rintro e w' ⟨rfl, rfl⟩))
    go_ret
    exact ⟨rfl, (Below.refl _ _).alloc (Nat.le_refl _) _⟩
  · have hp' : p < 1 ∨ 2000 < p := by omega
    clear h hp
    have HF := Lib.hid (fun w => within_no p 1 2000 w hp')
    go_enter Try.func53, Try.ntmps53
    go_wp2_with (go_at_call 56; refine (HF.out _).mono ?_; rintro e w' ⟨rfl, rfl⟩)
    go_ret
    exact ⟨rfl, (Below.refl _ _).alloc (Nat.le_refl _) _⟩

theorem right_any (p f : Int) (w : World) :
    Calls Try.prog 53 #[.agg #[.int .i64 p, .int .i64 f]] w fun e w' => e = .returned (.bool (rightB p f)) ∧ Below w.heap.size w w' := by
  by_cases h : 1 ≤ p ∧ p ≤ 2000 ∧ 0 ≤ f ∧ f ≤ 2000
  · rw [right_yes h]; exact right_true p f w h
  · rw [right_no h]; exact right_false p f w h


end Go.Proofs.Ytjcmjlkihfcdcaa.clock
