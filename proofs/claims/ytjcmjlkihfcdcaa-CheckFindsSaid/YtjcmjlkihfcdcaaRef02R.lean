/-
  The reference's look at clocks: Right.
-/
import Derived.Test.YtjcmjlkihfcdcaaApplyA
namespace Go.Proofs.Ytjcmjlkihfcdcaa.clock
open Go.RowKit
set_option linter.unusedVariables false

theorem refRight_any (p f : Int) (w : World) :
    Calls Try.prog 44 #[.agg #[.int .i64 p, .int .i64 f]] w fun e w' => e = .returned (.bool (rightB p f)) ∧ Below w.heap.size w w' := by
  by_cases h1 : 0 < p
  · by_cases h2 : p ≤ 2000
    · by_cases h3 : 0 ≤ f
      · by_cases h4 : f ≤ 2000
        · have E := Lib.hid (right_yes (p := p) (f := f) (by omega))
          go_enter Try.func44, Try.ntmps44
          go_wp2
          go_ret
          exact ⟨bool_eq (by rw [E.out]), box1 _⟩
        · have E := Lib.hid (right_no (p := p) (f := f) (by omega))
          have h4' : 2000 < f := by omega
          have b : decide (f ≤ 2000) = false := decide_eq_false h4
          clear h4
          go_enter Try.func44, Try.ntmps44
          go_wp2
          go_ret
          exact ⟨bool_eq (by rw [E.out]; try (simp; omega)), box1 _⟩
      · have E := Lib.hid (right_no (p := p) (f := f) (by omega))
        have h3' : f < 0 := by omega
        have b : decide (0 ≤ f) = false := decide_eq_false h3
        clear h3
        go_enter Try.func44, Try.ntmps44
        go_wp2
        go_ret
        exact ⟨bool_eq (by rw [E.out]; try (simp; omega)), box1 _⟩
    · have E := Lib.hid (right_no (p := p) (f := f) (by omega))
      have h2' : 2000 < p := by omega
      have b : decide (p ≤ 2000) = false := decide_eq_false h2
      clear h2
      go_enter Try.func44, Try.ntmps44
      go_wp2
      go_ret
      exact ⟨bool_eq (by rw [E.out]; try (simp; omega)), box1 _⟩
  · have E := Lib.hid (right_no (p := p) (f := f) (by omega))
    have h1' : p ≤ 0 := by omega
    have b : decide (0 < p) = false := decide_eq_false h1
    clear h1
    go_enter Try.func44, Try.ntmps44
    go_wp2
    go_ret
    exact ⟨bool_eq (by rw [E.out]; try (simp; omega)), box1 _⟩

end Go.Proofs.Ytjcmjlkihfcdcaa.clock
