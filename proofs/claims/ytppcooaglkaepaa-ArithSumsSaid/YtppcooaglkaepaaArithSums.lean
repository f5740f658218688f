/-
  ArithSums returns true for all arguments, and what was in memory stays as it was. No conditions.
-/
import Derived.Test.YtppcooaglkaepaaRef01
import Derived.Test.YtppcooaglkaepaaRows
import Derived.WalkKit
import Derived.ProofKit
import Derived.OpenShut
import Derived.ChangeOld
import Derived.Below
namespace Go.Proofs.Ytppcooaglkaepaa.arithSums
open Go.ChangeShapes Go.WideShapes Go.ChangeAt Go.RowKit
set_option linter.unusedVariables false

theorem own : ownKnob Try.prog.godebug = none := by kernel_rfl

abbrev addFits (a b : Int) : Prop := -9223372036854775808 ≤ a + b ∧ a + b ≤ 9223372036854775807
abbrev mulFits (a b : Int) : Prop := -9223372036854775808 ≤ a * b ∧ a * b ≤ 9223372036854775807
def addV (a b : Int) : Int := if addFits a b then a + b else 0
def addB (a b : Int) : Bool := decide (addFits a b)
def mulV (a b : Int) : Int := if mulFits a b then a * b else 0
def mulB (a b : Int) : Bool := decide (mulFits a b)

def In64 (a : Int) : Prop := -9223372036854775808 ≤ a ∧ a ≤ 9223372036854775807

/-- A sum, or a product, in one contract, of whichever function tells it. -/
def TellsSum (f : Nat) : Prop := ∀ (a b : Int) (w : World), In64 a → In64 b →
  Calls Try.prog f #[.int .i64 a, .int .i64 b] w fun e w' => e = .returned (.tuple #[.int .i64 (addV a b), .bool (addB a b)]) ∧ ∃ m, w' = w.drewN m
def TellsProduct (f : Nat) : Prop := ∀ (a b : Int) (w : World), In64 a → In64 b →
  Calls Try.prog f #[.int .i64 a, .int .i64 b] w fun e w' => e = .returned (.tuple #[.int .i64 (mulV a b), .bool (mulB a b)]) ∧ ∃ m, w' = w.drewN m

theorem add_tells : TellsSum 7 := by
  intro a b w ha hb
  by_cases h : addFits a b
  · unfold addV addB; rw [if_pos h, decide_eq_true h]; exact arith.add_yes a b w ha.1 ha.2 hb.1 hb.2 h.1 h.2
  · unfold addV addB; rw [if_neg h, decide_eq_false h]; exact arith.add_no a b w ha.1 ha.2 hb.1 hb.2 (by unfold addFits at h; omega)
theorem refAdd_tells : TellsSum 8 := by
  intro a b w ha hb
  by_cases h : addFits a b
  · unfold addV addB; rw [if_pos h, decide_eq_true h]; exact arith.refAdd_yes a b w ha.1 ha.2 hb.1 hb.2 h.1 h.2
  · unfold addV addB; rw [if_neg h, decide_eq_false h]; exact arith.refAdd_no a b w ha.1 ha.2 hb.1 hb.2 (by unfold addFits at h; omega)
theorem mulZero {a b : Int} (h : a = 0 ∨ b = 0) : mulFits a b ∧ a * b = 0 := by
  have : a * b = 0 := by rcases h with h | h <;> simp [h]
  exact ⟨⟨by omega, by omega⟩, this⟩
theorem mul_tells : TellsProduct 9 := by
  intro a b w ha hb
  by_cases hz : a = 0 ∨ b = 0
  · have z := mulZero hz
    unfold mulV mulB; rw [if_pos z.1, decide_eq_true z.1, z.2]; exact arith.mul_zero a b w hz
  · by_cases h : mulFits a b
    · unfold mulV mulB; rw [if_pos h, decide_eq_true h]; exact arith.mul_yes a b w ha.1 ha.2 hb.1 hb.2 (by omega) (by omega) h.1 h.2
    · unfold mulV mulB; rw [if_neg h, decide_eq_false h]; exact arith.mul_no a b w ha.1 ha.2 hb.1 hb.2 (by omega) (by omega) (by unfold mulFits at h; omega)
theorem refMul_tells : TellsProduct 10 := by
  intro a b w ha hb
  by_cases hz : a = 0 ∨ b = 0
  · have z := mulZero hz
    unfold mulV mulB; rw [if_pos z.1, decide_eq_true z.1, z.2]; exact arith.refMul_zero a b w ha.1 ha.2 hb.1 hb.2 hz
  · by_cases h : mulFits a b
    · unfold mulV mulB; rw [if_pos h, decide_eq_true h]; exact arith.refMul_yes a b w ha.1 ha.2 hb.1 hb.2 (by omega) (by omega) h.1 h.2
    · unfold mulV mulB; rw [if_neg h, decide_eq_false h]; exact arith.refMul_no a b w ha.1 ha.2 hb.1 hb.2 (by omega) (by omega) (by unfold mulFits at h; omega)

theorem walk (a0 : Int) (a1 : Int) (w0 : (Lit.int .i64 a0).wf = true) (w1 : (Lit.int .i64 a1).wf = true) (w : World) :
    Calls Try.prog 3 #[.int .i64 a0, .int .i64 a1] w fun e w' => e = .returned (.bool true) ∧ Below w.heap.size w w' := by
  have b0 := bounds_i64 w0
  have b1 := bounds_i64 w1
  have H1 := Lib.hid (fun w => add_tells a0 a1 w b0 b1)
  have H2 := Lib.hid (fun w => refAdd_tells a0 a1 w b0 b1)
  have H3 := Lib.hid (fun w => mul_tells a0 a1 w b0 b1)
  have H4 := Lib.hid (fun w => refMul_tells a0 a1 w b0 b1)
  clear w0 w1 b0 b1
  go_enter Try.func3, Try.ntmps3
  go_wp2_with (first | (go_at_call 7; refine (H1.out _).mono ?_; rintro e w' ⟨rfl, m1, rfl⟩) | (go_at_call 8; refine (H2.out _).mono ?_; rintro e w' ⟨rfl, m1, rfl⟩) | (go_at_call 9; refine (H3.out _).mono ?_; rintro e w' ⟨rfl, m1, rfl⟩) | (go_at_call 10; refine (H4.out _).mono ?_; rintro e w' ⟨rfl, m1, rfl⟩) | (go_at_call 11; refine (arith.awake_any _).mono ?_; rintro e w1 ⟨rfl, hb1⟩))
  go_ret
  exact ⟨rfl, arith.of_below hb1⟩

set_option maxRecDepth 100000 in
theorem lifted (os : Os) (started : os.Started) (H : Type) (enc : TypeId × Value → H) :
    ReturnsInHanded {} Try.checked os 3 .any (Rows.arithSumsSpec.pre6 enc Try.prog Try.f3 Rows.arithSumsRow.domain false) (Rows.arithSumsSpec.post enc Try.prog Try.f3 false true false false) := by
  refine returnsInHanded_of_change (C := Try.checked) own started (by kernel_rfl) Try.func3
    (ChangeSpec.witness6 (enc := enc) (C := Try.checked) false ⟨#[], #[.int .i64 0, .int .i64 0], []⟩ 8 (by kernel_rfl) (by kernel_rfl) (by kernel_rfl) (by kernel_rfl)) ?_
  intro W base args ds gs before hval0 hW hcnd _
  have hval : ∀ (j : Nat) t v, Try.f3.params[j]? = some t → args[j]? = some v → Value.okWide Try.prog W .any base t v := hval0
  have hW' := hW
  obtain ⟨p, q, hA0, hV, rfl, hfz, hnd⟩ := hW
  have hA : DataW.TrodAll enc Try.prog W 0 (fun _ => true) true Try.f3.params.toList args.toList ds p := hA0
  rw [Try.params3] at hA hval
  obtain ⟨v0, vs0, d0, ds0, p0, q0, hargs, rfl, rfl, h0, r0⟩ := trodAll_cons hA
  obtain ⟨v1, vs1, d1, ds1, p1, q1, rfl, rfl, rfl, h1, r1⟩ := trodAll_cons r0
  obtain ⟨rfl, rfl, rfl⟩ := trodAll_nil r1
  obtain rfl : args = #[v0, v1] := by cases args; simp_all
  obtain ⟨rfl, rfl⟩ := trodVars_none hV
  obtain ⟨a0, rfl, rfl, rfl, w0⟩ := open_int Try.underlying2 (hval 0 2 v0 rfl rfl) h0
  obtain ⟨a1, rfl, rfl, rfl, w1⟩ := open_int Try.underlying2 (hval 1 2 v1 rfl rfl) h1
  clear hA0 hval0
  refine (walk a0 a1 w0 w1 W).mono fun e W' ⟨he, bel⟩ => ?_
  subst he
  exact ⟨_, rfl, _, _, _, [], _, [], hW', trodAll_mk1 (shut_bool Try.underlying4 _), (trodAll_cons_mk (shut_int Try.underlying2 w0) (trodAll_cons_mk (shut_int Try.underlying2 w1) trodAll_mk0)), rfl, bel.frame _, fun h => by cases h⟩

theorem over : Rows.arithSumsRow.holds Try.pinned (OpenSpec.ofChange Rows.arithSumsSpec) :=
  OpenClaim.holds_of_wide 3 Try.f3 rfl rfl rfl rfl rfl rfl rfl ⟨rfl, rfl, rfl, rfl, rfl⟩ rfl rfl rfl rfl rfl (by kernel_rfl) Try.func3 (by kernel_rfl)
    (of_decide_eq_true (by kernel_rfl)) (by unfold Func.isWrapper; first | (rw [if_pos (by decide +kernel)]; kernel_rfl) | (rw [if_neg (by decide +kernel)]; exact ⟨rfl, rfl⟩))
    (fun os started H enc _ => lifted os started H enc)

theorem proved : Rows.ArithSumsSaid := over
end Go.Proofs.Ytppcooaglkaepaa.arithSums
