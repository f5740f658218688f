/-
  Contracts of the operators' values: body.Op and the reference's Op, for all names and all int64 numbers.
-/
import Derived.Test.YteadbknmeoikmaaChecked
import Derived.Test.YteadbknmeoikmaaPlain
import Derived.WalkKit
import Derived.ProofKit
import Derived.OpenShut
import Derived.Handy
import Derived.BigQuiet
import Derived.Deep.QuietTactic
import Derived.Lib.Hide
import Derived.Lib.Strings
namespace Go.Proofs.Yteadbknmeoikmaa.body
open Go.RowKit
set_option linter.unusedVariables false

def opP (s : List UInt8) (a b : Int) : Int :=
  if s = [43] then wrap64 (a + b)
  else if s = [45] then wrap64 (a - b)
  else if s = [42] then wrap64 (a * b)
  else if s = [47] then (if b = 0 then 0 else wrap64 (a.tdiv b))
  else if s = [37] then (if b = 0 then 0 else a.tmod b)
  else if s = [60] then (if a < b then 1 else 0)
  else if s = [61, 61] then (if a = b then 1 else 0)
  else 0

theorem ret_int {k : IntKind} {a b : Int} (h : a = b) : Ending.returned (.int k a) = .returned (.int k b) := by rw [h]

theorem truth_any (c : Bool) (w : World) : Calls Try.prog 15 #[.bool c] w fun e w' => e = .returned (.int .i64 (if c = true then 1 else 0)) ∧ w = w' := by
  cases c <;> (go_enter Try.func15, Try.ntmps15; go_wp2; go_ret; exact ⟨rfl, rfl⟩)

theorem list_of {s : ByteArray} {l : List UInt8} (h : s.toList = l) : s = ⟨l.toArray⟩ := by
  obtain ⟨⟨d⟩⟩ := s
  rw [Lib.toList_data] at h
  simp at h; subst h; rfl

theorem op_any (s : ByteArray) (a b : Int) (w : World) (a1 : -9223372036854775808 ≤ a) (a2 : a ≤ 9223372036854775807) (b1 : -9223372036854775808 ≤ b) (b2 : b ≤ 9223372036854775807) :
    Calls Try.prog 6 #[.string s, .int .i64 a, .int .i64 b] w fun e w' => e = .returned (.int .i64 (opP s.toList a b)) ∧ ∃ m, w' = w.drewN m := by
  by_cases h1 : s.toList = [43]
  · rw [h1, show opP [43] a b = wrap64 (a + b) from rfl]
    obtain rfl := list_of h1
    clear h1 a1 a2 b1 b2
    go_enter Try.func6, Try.ntmps6
    go_wp2
    go_ret
    exact ⟨rfl, 0, rfl⟩
  by_cases h2 : s.toList = [45]
  · rw [h2, show opP [45] a b = wrap64 (a - b) from rfl]
    obtain rfl := list_of h2
    clear h1 h2 a1 a2 b1 b2
    go_enter Try.func6, Try.ntmps6
    go_wp2
    go_ret
    exact ⟨rfl, 0, rfl⟩
  by_cases h3 : s.toList = [42]
  · rw [h3, show opP [42] a b = wrap64 (a * b) from rfl]
    obtain rfl := list_of h3
    clear h1 h2 h3 a1 a2 b1 b2
    go_enter Try.func6, Try.ntmps6
    go_wp2
    go_ret
    exact ⟨rfl, 0, rfl⟩
  by_cases h4 : s.toList = [47]
  · rw [h4, show opP [47] a b = if b = 0 then 0 else wrap64 (a.tdiv b) from rfl]
    obtain rfl := list_of h4
    clear h1 h2 h3 h4 a1 a2 b1 b2
    by_cases hb : b = 0
    · subst hb
      go_enter Try.func6, Try.ntmps6
      go_wp2
      go_ret
      exact ⟨rfl, 0, rfl⟩
    · rw [if_neg hb]
      have hb' : (b == 0) = false := by simpa using hb
      go_enter Try.func6, Try.ntmps6
      go_wp2
      go_ret
      exact ⟨rfl, 0, rfl⟩
  by_cases h5 : s.toList = [37]
  · rw [h5, show opP [37] a b = if b = 0 then 0 else a.tmod b from rfl]
    obtain rfl := list_of h5
    clear h1 h2 h3 h4 h5 a1 a2 b1 b2
    by_cases hb : b = 0
    · subst hb
      go_enter Try.func6, Try.ntmps6
      go_wp2
      go_ret
      exact ⟨rfl, 0, rfl⟩
    · rw [if_neg hb]
      have hb' : (b == 0) = false := by simpa using hb
      go_enter Try.func6, Try.ntmps6
      go_wp2
      go_ret
      exact ⟨rfl, 0, rfl⟩
  by_cases h6 : s.toList = [60]
  · rw [h6, show opP [60] a b = if a < b then 1 else 0 from rfl]
    obtain rfl := list_of h6
    clear h1 h2 h3 h4 h5 h6 a1 a2 b1 b2
    go_enter Try.func6, Try.ntmps6
    go_wp2_with (go_at_call 15; refine (truth_any _ _).mono ?_; rintro e w' ⟨rfl, rfl⟩)
    all_goals
      go_ret
      exact ⟨rfl, 0, rfl⟩
  by_cases h7 : s.toList = [61, 61]
  · rw [h7, show opP [61, 61] a b = if a = b then 1 else 0 from rfl]
    obtain rfl := list_of h7
    clear h1 h2 h3 h4 h5 h6 h7 a1 a2 b1 b2
    go_enter Try.func6, Try.ntmps6
    go_wp2_with (go_at_call 15; refine (truth_any _ _).mono ?_; rintro e w' ⟨rfl, rfl⟩)
    all_goals
      go_ret
      exact ⟨rfl, 0, rfl⟩
  · rw [show opP s.toList a b = 0 by unfold opP; rw [if_neg h1, if_neg h2, if_neg h3, if_neg h4, if_neg h5, if_neg h6, if_neg h7]]
    have e1 : (s.toList == [43]) = false := (by simpa using h1); have e2 : (s.toList == [45]) = false := (by simpa using h2); have e3 : (s.toList == [42]) = false := (by simpa using h3); have e4 : (s.toList == [47]) = false := (by simpa using h4); have e5 : (s.toList == [37]) = false := (by simpa using h5); have e6 : (s.toList == [60]) = false := (by simpa using h6); have e7 : (s.toList == [61, 61]) = false := (by simpa using h7)
    clear h1 h2 h3 h4 h5 h6 h7 a1 a2 b1 b2
    go_enter Try.func6, Try.ntmps6
    go_wp2
    go_ret
    exact ⟨rfl, 0, rfl⟩

theorem u64w (a : Int) : IntKind.u64.wrap a = a % 18446744073709551616 := by
  rfl
theorem wrap64_of {x y : Int} (h : x % 18446744073709551616 = y % 18446744073709551616) : wrap64 x = wrap64 y := by unfold wrap64; omega

theorem ret_u64 {a b : Int} (h : a = b) : Ending.returned (.int .u64 a) = .returned (.int .u64 b) := by rw [h]

theorem size_any (a : Int) (w : World) (a1 : -9223372036854775808 ≤ a) (a2 : a ≤ 9223372036854775807) :
    Calls Try.prog 23 #[.int .i64 a] w fun e w' => e = .returned (.int .u64 (plain.sz a)) ∧ ∃ m, w' = w.drewN m := by
  by_cases ha : a < 0
  · go_enter Try.func23, Try.ntmps23
    go_wp2
    go_ret
    exact ⟨ret_u64 (by rw [plain.sz_neg (by omega), u64w, u64w]; omega), 0, rfl⟩
  · go_enter Try.func23, Try.ntmps23
    go_wp2
    go_ret
    exact ⟨ret_u64 (by rw [plain.sz_nonneg (by omega)]), 0, rfl⟩

theorem divide_zero (a : Int) (w : World) : Calls Try.prog 16 #[.int .i64 a, .int .i64 0] w fun e w' => e = .returned (.tuple #[.int .i64 0, .int .i64 0]) ∧ ∃ m, w' = w.drewN m := by
  go_enter Try.func16, Try.ntmps16
  go_wp2
  go_ret2
  exact ⟨rfl, 0, rfl⟩

theorem wq (x : Int) : wrap64 (IntKind.u64.wrap x) = wrap64 x := wrap64_of (by rw [u64w]; omega)
theorem wqn (x : Int) : wrap64 (IntKind.u64.wrap (-IntKind.u64.wrap x)) = wrap64 (-x) := wrap64_of (by rw [u64w, u64w]; omega)
theorem pair_int {a b c d : Int} (h : a = b) (h' : c = d) : Ending.returned (.tuple #[.int .i64 a, .int .i64 c]) = .returned (.tuple #[.int .i64 b, .int .i64 d]) := by rw [h, h']
theorem tmod_bd (a b : Int) (a1 : -9223372036854775808 ≤ a) (a2 : a ≤ 9223372036854775807) : -9223372036854775808 ≤ a.tmod b ∧ a.tmod b ≤ 9223372036854775807 := by
  by_cases h : 0 ≤ a
  · have := Int.tmod_nonneg b h
    have h2 := Int.mul_tdiv_add_tmod a b
    have h3 : (a.tmod b).natAbs ≤ a.natAbs := by rw [Int.natAbs_tmod]; exact Nat.mod_le _ _
    omega
  · have h3 : (a.tmod b).natAbs ≤ a.natAbs := by rw [Int.natAbs_tmod]; exact Nat.mod_le _ _
    have := Int.tmod_nonneg b (show 0 ≤ -a by omega)
    rw [Int.neg_tmod] at this
    omega
theorem sz_pn {a b : Int} (ha : 0 ≤ a) (hb : b < 0) : (plain.sz a).tdiv (plain.sz b) = -(a.tdiv b) ∧ (plain.sz a).tmod (plain.sz b) = a.tmod b := by
  rw [plain.sz_nonneg ha, plain.sz_neg hb, Int.tdiv_neg, Int.tmod_neg]; exact ⟨rfl, rfl⟩
theorem sz_pp {a b : Int} (ha : 0 ≤ a) (hb : 0 ≤ b) : (plain.sz a).tdiv (plain.sz b) = a.tdiv b ∧ (plain.sz a).tmod (plain.sz b) = a.tmod b := by
  rw [plain.sz_nonneg ha, plain.sz_nonneg hb]; exact ⟨rfl, rfl⟩
theorem sz_np {a b : Int} (ha : a < 0) (hb : 0 ≤ b) : (plain.sz a).tdiv (plain.sz b) = -(a.tdiv b) ∧ (plain.sz a).tmod (plain.sz b) = -(a.tmod b) := by
  rw [plain.sz_neg ha, plain.sz_nonneg hb, Int.neg_tdiv, Int.neg_tmod]; exact ⟨rfl, rfl⟩
theorem sz_nn {a b : Int} (ha : a < 0) (hb : b < 0) : (plain.sz a).tdiv (plain.sz b) = a.tdiv b ∧ (plain.sz a).tmod (plain.sz b) = -(a.tmod b) := by
  rw [plain.sz_neg ha, plain.sz_neg hb, Int.neg_tdiv, Int.neg_tmod, Int.tdiv_neg, Int.tmod_neg, Int.neg_neg]; exact ⟨rfl, rfl⟩

theorem divide_any (a b : Int) (w : World) (a1 : -9223372036854775808 ≤ a) (a2 : a ≤ 9223372036854775807) (b1 : -9223372036854775808 ≤ b) (b2 : b ≤ 9223372036854775807) (hb : ¬ b = 0) :
    Calls Try.prog 16 #[.int .i64 a, .int .i64 b] w fun e w' => e = .returned (.tuple #[.int .i64 (wrap64 (a.tdiv b)), .int .i64 (a.tmod b)]) ∧ ∃ m, w' = w.drewN m := by
  have hb' := plain.sz_pos hb
  have la := plain.sz_le a1 a2
  have lb := plain.sz_le b1 b2
  have zb : (plain.sz b == 0) = false := by simp; omega
  have zb' : (b == 0) = false := by simpa using hb
  have hr := tmod_bd a b a1 a2
  by_cases ha : a < 0 <;> by_cases hc : b < 0
  · have ta : decide (a < 0) = true := decide_eq_true ha
    have tb : decide (b < 0) = true := decide_eq_true hc
    have H := Lib.hid (sz_nn ha hc)
    go_enter Try.func16, Try.ntmps16
    go_wp2_with (go_at_call 23; refine (size_any _ _ (by omega) (by omega)).mono ?_; rintro e w' ⟨rfl, m1, rfl⟩)
    go_quiet (fail)
    go_wp2
    go_ret2
    exact ⟨pair_int (by first | (rw [wqn]; rw [H.out.1]; (try rw [Int.neg_neg])) | (rw [wq]; rw [H.out.1])) (by rw [H.out.2]; (try rw [Int.neg_neg]); (try rw [wq]); exact IntWalk.wrap64_in _ hr), _, rfl⟩
  · have ta : decide (a < 0) = true := decide_eq_true ha
    have tb : decide (b < 0) = false := decide_eq_false hc
    have H := Lib.hid (sz_np ha (Int.not_lt.1 hc))
    go_enter Try.func16, Try.ntmps16
    go_wp2_with (go_at_call 23; refine (size_any _ _ (by omega) (by omega)).mono ?_; rintro e w' ⟨rfl, m1, rfl⟩)
    go_quiet (fail)
    go_wp2
    go_ret2
    exact ⟨pair_int (by first | (rw [wqn]; rw [H.out.1]; (try rw [Int.neg_neg])) | (rw [wq]; rw [H.out.1])) (by rw [H.out.2]; (try rw [Int.neg_neg]); (try rw [wq]); exact IntWalk.wrap64_in _ hr), _, rfl⟩
  · have ta : decide (a < 0) = false := decide_eq_false ha
    have tb : decide (b < 0) = true := decide_eq_true hc
    have H := Lib.hid (sz_pn (Int.not_lt.1 ha) hc)
    go_enter Try.func16, Try.ntmps16
    go_wp2_with (go_at_call 23; refine (size_any _ _ (by omega) (by omega)).mono ?_; rintro e w' ⟨rfl, m1, rfl⟩)
    go_quiet (fail)
    go_wp2
    go_ret2
    exact ⟨pair_int (by first | (rw [wqn]; rw [H.out.1]; (try rw [Int.neg_neg])) | (rw [wq]; rw [H.out.1])) (by rw [H.out.2]; (try rw [Int.neg_neg]); (try rw [wq]); exact IntWalk.wrap64_in _ hr), _, rfl⟩
  · have ta : decide (a < 0) = false := decide_eq_false ha
    have tb : decide (b < 0) = false := decide_eq_false hc
    have H := Lib.hid (sz_pp (Int.not_lt.1 ha) (Int.not_lt.1 hc))
    go_enter Try.func16, Try.ntmps16
    go_wp2_with (go_at_call 23; refine (size_any _ _ (by omega) (by omega)).mono ?_; rintro e w' ⟨rfl, m1, rfl⟩)
    go_quiet (fail)
    go_wp2
    go_ret2
    exact ⟨pair_int (by first | (rw [wqn]; rw [H.out.1]; (try rw [Int.neg_neg])) | (rw [wq]; rw [H.out.1])) (by rw [H.out.2]; (try rw [Int.neg_neg]); (try rw [wq]); exact IntWalk.wrap64_in _ hr), _, rfl⟩

theorem refOp_any (s : ByteArray) (a b : Int) (w : World) (a1 : -9223372036854775808 ≤ a) (a2 : a ≤ 9223372036854775807) (b1 : -9223372036854775808 ≤ b) (b2 : b ≤ 9223372036854775807) :
    Calls Try.prog 7 #[.string s, .int .i64 a, .int .i64 b] w fun e w' => e = .returned (.int .i64 (opP s.toList a b)) ∧ ∃ m, w' = w.drewN m := by
  by_cases h1 : s.toList = [43]
  · rw [h1, show opP [43] a b = wrap64 (a + b) from rfl]
    obtain rfl := list_of h1
    clear h1
    go_enter Try.func7, Try.ntmps7
    go_wp2
    go_ret
    exact ⟨ret_int (wrap64_of (by simp only [u64w]; omega)), 0, rfl⟩
  by_cases h2 : s.toList = [45]
  · rw [h2, show opP [45] a b = wrap64 (a - b) from rfl]
    obtain rfl := list_of h2
    clear h1 h2
    go_enter Try.func7, Try.ntmps7
    go_wp2
    go_ret
    exact ⟨ret_int (wrap64_of (by simp only [u64w]; omega)), 0, rfl⟩
  by_cases h3 : s.toList = [42]
  · rw [h3, show opP [42] a b = wrap64 (a * b) from rfl]
    obtain rfl := list_of h3
    clear h1 h2 h3
    go_enter Try.func7, Try.ntmps7
    go_wp2
    go_ret
    exact ⟨ret_int (wrap64_of (by simp only [u64w]; rw [Int.emod_emod_of_dvd _ (Int.dvd_refl _), ← Int.mul_emod])), 0, rfl⟩
  by_cases h4 : s.toList = [47]
  · rw [h4, show opP [47] a b = if b = 0 then 0 else wrap64 (a.tdiv b) from rfl]
    obtain rfl := list_of h4
    clear h1 h2 h3 h4
    by_cases hb : b = 0
    · subst hb
      go_enter Try.func7, Try.ntmps7; go_wp2_with (go_at_call 16; refine ((divide_zero _ _)).mono ?_; rintro e w' ⟨rfl, m1, rfl⟩); go_ret; exact ⟨rfl, _, rfl⟩
    · rw [if_neg hb]
      have H := Lib.hid (fun w => divide_any a b w a1 a2 b1 b2 hb)
      clear hb
      go_enter Try.func7, Try.ntmps7; go_wp2_with (go_at_call 16; refine ((H.out _)).mono ?_; rintro e w' ⟨rfl, m1, rfl⟩); go_ret; exact ⟨rfl, _, rfl⟩
  by_cases h5 : s.toList = [37]
  · rw [h5, show opP [37] a b = if b = 0 then 0 else a.tmod b from rfl]
    obtain rfl := list_of h5
    clear h1 h2 h3 h4 h5
    by_cases hb : b = 0
    · subst hb
      go_enter Try.func7, Try.ntmps7; go_wp2_with (go_at_call 16; refine ((divide_zero _ _)).mono ?_; rintro e w' ⟨rfl, m1, rfl⟩); go_ret; exact ⟨rfl, _, rfl⟩
    · rw [if_neg hb]
      have H := Lib.hid (fun w => divide_any a b w a1 a2 b1 b2 hb)
      clear hb
      go_enter Try.func7, Try.ntmps7; go_wp2_with (go_at_call 16; refine ((H.out _)).mono ?_; rintro e w' ⟨rfl, m1, rfl⟩); go_ret; exact ⟨rfl, _, rfl⟩
  by_cases h6 : s.toList = [60]
  · rw [h6, show opP [60] a b = if a < b then 1 else 0 from rfl]
    obtain rfl := list_of h6
    clear h1 h2 h3 h4 h5 h6 a1 a2 b1 b2
    go_enter Try.func7, Try.ntmps7
    go_wp2
    all_goals
      go_ret
      exact ⟨rfl, 0, rfl⟩
  by_cases h7 : s.toList = [61, 61]
  · rw [h7, show opP [61, 61] a b = if a = b then 1 else 0 from rfl]
    obtain rfl := list_of h7
    clear h1 h2 h3 h4 h5 h6 h7
    have hw : (IntKind.u64.wrap a == IntKind.u64.wrap b) = decide (a = b) := by rw [u64w, u64w, Bool.eq_iff_iff]; simp; omega
    by_cases hab : a = b
    · rw [if_pos hab]
      rw [decide_eq_true hab] at hw
      subst hab
      go_enter Try.func7, Try.ntmps7
      go_wp2
      go_ret
      exact ⟨rfl, 0, rfl⟩
    · rw [if_neg hab]
      rw [decide_eq_false hab] at hw
      go_enter Try.func7, Try.ntmps7
      go_wp2
      go_ret
      exact ⟨rfl, 0, rfl⟩
  · rw [show opP s.toList a b = 0 by unfold opP; rw [if_neg h1, if_neg h2, if_neg h3, if_neg h4, if_neg h5, if_neg h6, if_neg h7]]
    have e1 : (s.toList == [43]) = false := (by simpa using h1); have e2 : (s.toList == [45]) = false := (by simpa using h2); have e3 : (s.toList == [42]) = false := (by simpa using h3); have e4 : (s.toList == [47]) = false := (by simpa using h4); have e5 : (s.toList == [37]) = false := (by simpa using h5); have e6 : (s.toList == [60]) = false := (by simpa using h6); have e7 : (s.toList == [61, 61]) = false := (by simpa using h7)
    clear h1 h2 h3 h4 h5 h6 h7 a1 a2 b1 b2
    go_enter Try.func7, Try.ntmps7
    go_wp2
    go_ret
    exact ⟨rfl, 0, rfl⟩

theorem awake_any (w : World) : Calls Try.prog 5 #[] w fun e w' => e = .returned (.bool true) ∧ ∃ m, w' = w.drewN m := by
  have H1 := Lib.hid (fun w => op_any ⟨#[43]⟩ 2 3 w (by omega) (by omega) (by omega) (by omega))
  have H2 := Lib.hid (fun w => op_any ⟨#[47]⟩ 7 2 w (by omega) (by omega) (by omega) (by omega))
  rw [show opP (ByteArray.toList ⟨#[43]⟩) 2 3 = 5 by rw [Lib.toList_data]; show opP [43] 2 3 = 5; simp [opP, wrap64]] at H1
  rw [show opP (ByteArray.toList ⟨#[47]⟩) 7 2 = 3 by rw [Lib.toList_data]; show opP [47] 7 2 = 3; simp [opP, wrap64]] at H2
  go_enter Try.func5, Try.ntmps5
  go_wp2_with (first | (go_at_call 6; (with_reducible refine (H1.out _).mono ?_); rintro e w' ⟨rfl, m1, rfl⟩) | (go_at_call 6; (with_reducible refine (H2.out _).mono ?_); rintro e w' ⟨rfl, m2, rfl⟩))
  go_ret
  exact ⟨rfl, _, rfl⟩

end Go.Proofs.Yteadbknmeoikmaa.body
