/-
  Contracts of the package arith: Floor, Add, Mul, for all int64 arguments.
-/
import Derived.Test.YtipafnggeckojaaChecked
import Derived.Test.YtipafnggeckojaaPlain
import Derived.WalkKit
import Derived.ProofKit
import Derived.OpenShut
import Derived.Handy
import Derived.BigQuiet
import Derived.Deep.QuietTactic
import Derived.Lib.Hide
namespace Go.Proofs.Ytipafnggeckojaa.arith
open Go.RowKit
set_option linter.unusedVariables false

theorem pair_int {a b c d : Int} (h : a = b) (h' : c = d) : Ending.returned (.tuple #[.int .i64 a, .int .i64 c]) = .returned (.tuple #[.int .i64 b, .int .i64 d]) := by rw [h, h']

/-- Floor of a divisor below 1. -/
theorem floor_zero (n d : Int) (w : World) (hd : d < 1) :
    Calls Try.prog 21 #[.int .i64 n, .int .i64 d] w fun e w' => e = .returned (.tuple #[.int .i64 0, .int .i64 0]) ∧ ∃ m, w' = w.drewN m := by
  go_enter Try.func21, Try.ntmps21
  go_wp2
  go_ret2
  exact ⟨rfl, 0, rfl⟩

theorem floor_pos (n d : Int) (w : World) (hd : 1 ≤ d) (h1 : -9223372036854775808 ≤ n) (h2 : n ≤ 9223372036854775807) (h3 : d ≤ 9223372036854775807) :
    Calls Try.prog 21 #[.int .i64 n, .int .i64 d] w fun e w' => e = .returned (.tuple #[.int .i64 (n / d), .int .i64 (n % d)]) ∧ ∃ m, w' = w.drewN m := by
  go_enter Try.func21, Try.ntmps21
  go_wp2
  go_quiet (fail)
  go_wp2
  all_goals go_ret2
  · have hm : n.tmod d < 0 := by assumption
    have H := plain.floor_neg n d hd h1 h2 h3 hm
    exact ⟨pair_int H.1 H.2, _, rfl⟩
  · have hm : 0 ≤ n.tmod d := by assumption
    have H := plain.floor_nonneg n d hd hm
    exact ⟨pair_int H.1 H.2, _, rfl⟩

theorem mul_zero (a b : Int) (w : World) (h : a = 0 ∨ b = 0) :
    Calls Try.prog 17 #[.int .i64 a, .int .i64 b] w fun e w' => e = .returned (.tuple #[.int .i64 0, .bool true]) ∧ ∃ m, w' = w.drewN m := by
  by_cases ha : a = 0
  · subst ha; clear h
    go_enter Try.func17, Try.ntmps17
    go_wp2
    go_ret2
    exact ⟨rfl, 0, rfl⟩
  · have hb : b = 0 := by omega
    subst hb
    have ha' : (a == 0) = false := by simpa using ha
    clear h ha
    go_enter Try.func17, Try.ntmps17
    go_wp2
    go_ret2
    exact ⟨rfl, 0, rfl⟩

theorem mul_yes (a b : Int) (w : World) (a1 : -9223372036854775808 ≤ a) (a2 : a ≤ 9223372036854775807) (b1 : -9223372036854775808 ≤ b) (b2 : b ≤ 9223372036854775807)
    (ha : ¬ a = 0) (hb : ¬ b = 0) (h1 : -9223372036854775808 ≤ a * b) (h2 : a * b ≤ 9223372036854775807) :
    Calls Try.prog 17 #[.int .i64 a, .int .i64 b] w fun e w' => e = .returned (.tuple #[.int .i64 (a * b), .bool true]) ∧ ∃ m, w' = w.drewN m := by
  have ha' : (a == 0) = false := by simpa using ha
  have hb' : (b == 0) = false := by simpa using hb
  have hs := plain.sign_no (plain.mul_sign a b ha hb)
  have hw : wrap64 a = a := IntWalk.wrap64_in a ⟨a1, a2⟩
  go_enter Try.func17, Try.ntmps17
  go_wp2
  go_ret2
  exact ⟨rfl, 0, rfl⟩

theorem mul_no (a b : Int) (w : World) (a1 : -9223372036854775808 ≤ a) (a2 : a ≤ 9223372036854775807) (b1 : -9223372036854775808 ≤ b) (b2 : b ≤ 9223372036854775807)
    (ha : ¬ a = 0) (hb : ¬ b = 0) (h : a * b < -9223372036854775808 ∨ 9223372036854775807 < a * b) :
    Calls Try.prog 17 #[.int .i64 a, .int .i64 b] w fun e w' => e = .returned (.tuple #[.int .i64 0, .bool false]) ∧ ∃ m, w' = w.drewN m := by
  have ha' : (a == 0) = false := by simpa using ha
  have hb' : (b == 0) = false := by simpa using hb
  by_cases hq : wrap64 ((wrap64 (a * b)).tdiv b) = a
  · have hs := plain.sign_yes (plain.mul_over a b a1 a2 b1 b2 ha hb h hq)
    go_enter Try.func17, Try.ntmps17
    go_wp2
    go_ret2
    exact ⟨rfl, 0, rfl⟩
  · go_enter Try.func17, Try.ntmps17
    go_wp2
    go_ret2
    exact ⟨rfl, 0, rfl⟩

end Go.Proofs.Ytipafnggeckojaa.arith
