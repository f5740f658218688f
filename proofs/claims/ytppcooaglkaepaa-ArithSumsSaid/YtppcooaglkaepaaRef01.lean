/-
  Contracts of the reference of layer 1: sums and products by sizes and signs; divisibility.
-/
import Derived.Test.YtppcooaglkaepaaAwake
namespace Go.Proofs.Ytppcooaglkaepaa.arith
open Go.RowKit
set_option linter.unusedVariables false

theorem refAdd_yes (a b : Int) (w : World) (a1 : -9223372036854775808 ≤ a) (a2 : a ≤ 9223372036854775807) (b1 : -9223372036854775808 ≤ b) (b2 : b ≤ 9223372036854775807)
    (h1 : -9223372036854775808 ≤ a + b) (h2 : a + b ≤ 9223372036854775807) :
    Calls Try.prog 8 #[.int .i64 a, .int .i64 b] w fun e w' => e = .returned (.tuple #[.int .i64 (a + b), .bool true]) ∧ ∃ m, w' = w.drewN m := by
  by_cases hb : 0 ≤ b
  · have t : decide (9223372036854775807 - b < a) = false := by simp; omega
    go_enter Try.func8, Try.ntmps8
    go_wp2
    go_ret2
    exact ⟨rfl, 0, rfl⟩
  · have t : decide (a < -9223372036854775808 - b) = false := by simp; omega
    go_enter Try.func8, Try.ntmps8
    go_wp2
    go_ret2
    exact ⟨rfl, 0, rfl⟩

theorem refAdd_no (a b : Int) (w : World) (a1 : -9223372036854775808 ≤ a) (a2 : a ≤ 9223372036854775807) (b1 : -9223372036854775808 ≤ b) (b2 : b ≤ 9223372036854775807)
    (h : a + b < -9223372036854775808 ∨ 9223372036854775807 < a + b) :
    Calls Try.prog 8 #[.int .i64 a, .int .i64 b] w fun e w' => e = .returned (.tuple #[.int .i64 0, .bool false]) ∧ ∃ m, w' = w.drewN m := by
  by_cases hb : 0 ≤ b
  · have t : decide (9223372036854775807 - b < a) = true := by simp; omega
    clear h
    go_enter Try.func8, Try.ntmps8
    go_wp2
    go_ret2
    exact ⟨rfl, 0, rfl⟩
  · have t : decide (a < -9223372036854775808 - b) = true := by simp; omega
    clear h
    go_enter Try.func8, Try.ntmps8
    go_wp2
    go_ret2
    exact ⟨rfl, 0, rfl⟩

theorem u64_eq {a b : Int} (h : a = b) : Ending.returned (.int .u64 a) = .returned (.int .u64 b) := by rw [h]

theorem size_any (a : Int) (w : World) (a1 : -9223372036854775808 ≤ a) (a2 : a ≤ 9223372036854775807) :
    Calls Try.prog 16 #[.int .i64 a] w fun e w' => e = .returned (.int .u64 (plain.sz a)) ∧ ∃ m, w' = w.drewN m := by
  by_cases ha : a < 0
  · go_enter Try.func16, Try.ntmps16
    go_wp2
    go_ret
    exact ⟨u64_eq (by rw [plain.sz_neg (by omega)]; omega), 0, rfl⟩
  · go_enter Try.func16, Try.ntmps16
    go_wp2
    go_ret
    exact ⟨u64_eq (by rw [plain.sz_nonneg (by omega)]), 0, rfl⟩

theorem refMul_zero (a b : Int) (w : World) (a1 : -9223372036854775808 ≤ a) (a2 : a ≤ 9223372036854775807) (b1 : -9223372036854775808 ≤ b) (b2 : b ≤ 9223372036854775807) (h : a = 0 ∨ b = 0) :
    Calls Try.prog 10 #[.int .i64 a, .int .i64 b] w fun e w' => e = .returned (.tuple #[.int .i64 0, .bool true]) ∧ ∃ m, w' = w.drewN m := by
  have hz : (plain.sz 0 == 0) = true := by decide
  by_cases ha : a = 0
  · subst ha; clear h
    go_enter Try.func10, Try.ntmps10
    go_wp2_with (go_at_call 16; refine (size_any _ _ (by omega) (by omega)).mono ?_; rintro e w' ⟨rfl, m1, rfl⟩)
    go_ret2
    exact ⟨rfl, _, rfl⟩
  · have hb : b = 0 := by omega
    subst hb
    have hp := plain.sz_pos ha
    have ha' : (plain.sz a == 0) = false := by simp; omega
    clear h ha
    go_enter Try.func10, Try.ntmps10
    go_wp2_with (go_at_call 16; refine (size_any _ _ (by omega) (by omega)).mono ?_; rintro e w' ⟨rfl, m1, rfl⟩)
    go_ret2
    exact ⟨rfl, _, rfl⟩

theorem refMul_no (a b : Int) (w : World) (a1 : -9223372036854775808 ≤ a) (a2 : a ≤ 9223372036854775807) (b1 : -9223372036854775808 ≤ b) (b2 : b ≤ 9223372036854775807)
    (ha : ¬ a = 0) (hb : ¬ b = 0) (h : a * b < -9223372036854775808 ∨ 9223372036854775807 < a * b) :
    Calls Try.prog 10 #[.int .i64 a, .int .i64 b] w fun e w' => e = .returned (.tuple #[.int .i64 0, .bool false]) ∧ ∃ m, w' = w.drewN m := by
  have ha' := plain.sz_pos ha
  have hb' := plain.sz_pos hb
  have la := plain.sz_le a1 a2
  have lb := plain.sz_le b1 b2
  have za : (plain.sz a == 0) = false := by simp; omega
  have zb : (plain.sz b == 0) = false := by simp; omega
  have hm := plain.sz_mul a b
  by_cases hs : a * b < 0
  · have t := plain.bne_yes (p := a < 0) (q := b < 0) ((plain.mul_sign a b ha hb).1 hs)
    have hz := plain.sz_neg hs
    have q : decide (9223372036854775808 / plain.sz b < plain.sz a) = true := by
      rw [decide_eq_true_iff, plain.quo_lt hb']; omega
    clear h hm hs hz ha hb
    go_enter Try.func10, Try.ntmps10
    go_wp2_with (go_at_call 16; refine (size_any _ _ (by omega) (by omega)).mono ?_; rintro e w' ⟨rfl, m1, rfl⟩)
    go_ret2
    exact ⟨rfl, _, rfl⟩
  · have t := plain.bne_no (p := a < 0) (q := b < 0) (Classical.byContradiction fun x => hs ((plain.mul_sign a b ha hb).2 x))
    have hz := plain.sz_nonneg (show 0 ≤ a * b by omega)
    have q : decide (9223372036854775807 / plain.sz b < plain.sz a) = true := by
      rw [decide_eq_true_iff, plain.quo_lt hb']; omega
    clear h hm hs hz ha hb
    go_enter Try.func10, Try.ntmps10
    go_wp2_with (go_at_call 16; refine (size_any _ _ (by omega) (by omega)).mono ?_; rintro e w' ⟨rfl, m1, rfl⟩)
    go_ret2
    exact ⟨rfl, _, rfl⟩

theorem pair_ib {a b : Int} (h : a = b) (c : Bool) : Ending.returned (.tuple #[.int .i64 a, .bool c]) = .returned (.tuple #[.int .i64 b, .bool c]) := by rw [h]

theorem refMul_yes (a b : Int) (w : World) (a1 : -9223372036854775808 ≤ a) (a2 : a ≤ 9223372036854775807) (b1 : -9223372036854775808 ≤ b) (b2 : b ≤ 9223372036854775807)
    (ha : ¬ a = 0) (hb : ¬ b = 0) (h1 : -9223372036854775808 ≤ a * b) (h2 : a * b ≤ 9223372036854775807) :
    Calls Try.prog 10 #[.int .i64 a, .int .i64 b] w fun e w' => e = .returned (.tuple #[.int .i64 (a * b), .bool true]) ∧ ∃ m, w' = w.drewN m := by
  have ha' := plain.sz_pos ha
  have hb' := plain.sz_pos hb
  have la := plain.sz_le a1 a2
  have lb := plain.sz_le b1 b2
  have za : (plain.sz a == 0) = false := by simp; omega
  have zb : (plain.sz b == 0) = false := by simp; omega
  have hm := plain.sz_mul a b
  have hp : 1 ≤ plain.sz a * plain.sz b := mul_pos1 ha' hb'
  by_cases hs : a * b < 0
  · have t := plain.bne_yes (p := a < 0) (q := b < 0) ((plain.mul_sign a b ha hb).1 hs)
    have hz := plain.sz_neg hs
    have q : decide (9223372036854775808 / plain.sz b < plain.sz a) = false := by
      rw [decide_eq_false_iff_not, plain.quo_lt hb']; omega
    have hu : plain.sz a * plain.sz b ≤ 9223372036854775808 := by omega
    have E := Lib.hid (show -(plain.sz a * plain.sz b - 1) - 1 = a * b by omega)
    clear h1 h2 hm hs hz ha hb
    go_enter Try.func10, Try.ntmps10
    go_wp2_with (go_at_call 16; refine (size_any _ _ (by omega) (by omega)).mono ?_; rintro e w' ⟨rfl, m1, rfl⟩)
    go_ret2
    exact ⟨pair_ib E.out true, _, rfl⟩
  · have t := plain.bne_no (p := a < 0) (q := b < 0) (Classical.byContradiction fun x => hs ((plain.mul_sign a b ha hb).2 x))
    have hz := plain.sz_nonneg (show 0 ≤ a * b by omega)
    have q : decide (9223372036854775807 / plain.sz b < plain.sz a) = false := by
      rw [decide_eq_false_iff_not, plain.quo_lt hb']; omega
    have hu : plain.sz a * plain.sz b ≤ 9223372036854775807 := by omega
    have E := Lib.hid (show plain.sz a * plain.sz b = a * b by omega)
    clear h1 h2 hm hs hz ha hb
    go_enter Try.func10, Try.ntmps10
    go_wp2_with (go_at_call 16; refine (size_any _ _ (by omega) (by omega)).mono ?_; rintro e w' ⟨rfl, m1, rfl⟩)
    go_ret2
    exact ⟨pair_ib E.out true, _, rfl⟩

end Go.Proofs.Ytppcooaglkaepaa.arith
