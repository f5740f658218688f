/-
  Contracts of the package arith: Floor, Add, Mul, for all int64 arguments.
-/
import Derived.Test.YtjcmjlkihfcdcaaChecked
import Derived.Test.YtjcmjlkihfcdcaaPlain
import Derived.WalkKit
import Derived.ProofKit
import Derived.OpenShut
import Derived.Handy
import Derived.BigQuiet
import Derived.Deep.QuietTactic
import Derived.Lib.Hide
namespace Go.Proofs.Ytjcmjlkihfcdcaa.arith
open Go.RowKit
set_option linter.unusedVariables false

theorem pair_int {a b c d : Int} (h : a = b) (h' : c = d) : Ending.returned (.tuple #[.int .i64 a, .int .i64 c]) = .returned (.tuple #[.int .i64 b, .int .i64 d]) := by rw [h, h']

/-- Floor of a divisor below 1. -/
theorem floor_zero (n d : Int) (w : World) (hd : d < 1) :
    Calls Try.prog 59 #[.int .i64 n, .int .i64 d] w fun e w' => e = .returned (.tuple #[.int .i64 0, .int .i64 0]) ∧ ∃ m, w' = w.drewN m := by
  go_enter Try.func59, Try.ntmps59
  go_wp2
  go_ret2
  exact ⟨rfl, 0, rfl⟩

theorem floor_pos (n d : Int) (w : World) (hd : 1 ≤ d) (h1 : -9223372036854775808 ≤ n) (h2 : n ≤ 9223372036854775807) (h3 : d ≤ 9223372036854775807) :
    Calls Try.prog 59 #[.int .i64 n, .int .i64 d] w fun e w' => e = .returned (.tuple #[.int .i64 (n / d), .int .i64 (n % d)]) ∧ ∃ m, w' = w.drewN m := by
  go_enter Try.func59, Try.ntmps59
  go_wp2
  go_quiet (fail)
  go_wp2
  all_goals go_ret2
  · have hm : n.tmod d < 0 := by assumption
    have H := plain.floor_neg n d hd h1 h2 h3 hm
    exact ⟨pair_int H.1 H.2, _, rfl⟩
  · have hm : 0 ≤ n.tmod d := by assumption
    have H := plain.floor_nonneg n d hd hm
    exact ⟨pair_int H.1 H.2, _, rfl⟩


end Go.Proofs.Ytjcmjlkihfcdcaa.arith
