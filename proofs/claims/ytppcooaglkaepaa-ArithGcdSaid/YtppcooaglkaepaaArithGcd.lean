/-
  ArithGcd returns true for all arguments, and what was in memory stays as it was. No conditions.
-/
import Derived.Test.YtppcooaglkaepaaGcdPlain
import Derived.WalkLawsBesides
import Derived.Test.YtppcooaglkaepaaRows
import Derived.WalkKit
import Derived.ProofKit
import Derived.OpenShut
import Derived.ChangeOld
import Derived.Below
namespace Go.Proofs.Ytppcooaglkaepaa.arithGcd
open Go.ChangeShapes Go.WideShapes Go.ChangeAt Go.RowKit
set_option linter.unusedVariables false

theorem own : ownKnob Try.prog.godebug = none := by kernel_rfl

theorem low_true {a b x : Int} (h : arith.gcdOf a b = x) : (x == arith.gcdOf b a) = true := by
  rw [← h, arith.gcdOf_comm]; exact beq_self_eq_true _

theorem walk_low (a b : Int) (w : World) (ha : -9223372036854775808 ≤ a ∧ a ≤ 9223372036854775807) (hb : -9223372036854775808 ≤ b ∧ b ≤ 9223372036854775807) (h : a < 1 ∨ b < 1) :
    Calls Try.prog 4 #[.int .i64 a, .int .i64 b] w fun e w' => e = .returned (.bool true) ∧ Below w.heap.size w w' := by
  obtain ⟨a1, a2⟩ := ha
  obtain ⟨b1, b2⟩ := hb
  have HE := Lib.hid (arith.gcdOf_low h)
  by_cases h1 : a < 1
  · clear h
    go_enter Try.func4, Try.ntmps4
    go_wp2_with (first | (go_at_call 12; refine (arith.gcd_any _ _ _ (by omega) (by omega) (by omega) (by omega)).mono ?_; rintro e w' ⟨rfl, m1, rfl⟩) | (go_at_call 11; refine (arith.awake_any _).mono ?_; rintro e w1 ⟨rfl, hb1⟩))
    all_goals
      go_ret
      refine ⟨arith.bool_true ?_, by first | exact arith.of_below hb1 | exact arith.below_drewN (arith.of_below hb1) _⟩
      have E := HE.out
      first | (exfalso; omega) | exact low_true (by omega)
  · have h2 : b < 1 := by omega
    clear h
    go_enter Try.func4, Try.ntmps4
    go_wp2_with (first | (go_at_call 12; refine (arith.gcd_any _ _ _ (by omega) (by omega) (by omega) (by omega)).mono ?_; rintro e w' ⟨rfl, m1, rfl⟩) | (go_at_call 11; refine (arith.awake_any _).mono ?_; rintro e w1 ⟨rfl, hb1⟩))
    all_goals
      go_ret
      refine ⟨arith.bool_true ?_, by first | exact arith.of_below hb1 | exact arith.below_drewN (arith.of_below hb1) _⟩
      have E := HE.out
      first | (exfalso; omega) | exact low_true (by omega)

theorem walk_pos (a b : Int) (w : World) (a1 : 1 ≤ a) (a2 : a ≤ 9223372036854775807) (b1 : 1 ≤ b) (b2 : b ≤ 9223372036854775807) :
    Calls Try.prog 4 #[.int .i64 a, .int .i64 b] w fun e w' => e = .returned (.bool true) ∧ Below w.heap.size w w' := by
  have g1 := arith.gcdOf_pos (x := b) a1
  have g2 := arith.gcdOf_le (x := b) a1
  have q1 := arith.quo_pos (x := b) a1
  have q2 := arith.quo_le (x := b) a1
  have p1 := arith.quo_pos' (a := a) a1 b1
  have p2 := arith.quo_le' (a := a) b1
  have t : (arith.gcdOf a b != arith.gcdOf b a) = false := by rw [arith.gcdOf_comm b a]; exact bne_self_eq_false _
  have HY := Lib.hid (fun w => arith.divides_yes (arith.gcdOf a b) a b w g1 (by omega) (by omega) a2 b2 (by omega) (arith.gcdOf_left a1) (arith.gcdOf_right b1))
  have HN := Lib.hid (fun (d : Int) (w : World) (hd : 2 ≤ d) (hd2 : d ≤ 300) => arith.divides_no d (a / arith.gcdOf a b) (b / arith.gcdOf a b) w (by omega) (by omega) (by omega) (by omega) (by omega) (by omega) (arith.none_else a1 b1 hd))
  have HG : Hid (∀ w, Calls Try.prog 12 #[.int .i64 (a / arith.gcdOf a b), .int .i64 (b / arith.gcdOf a b)] w fun e w' => e = .returned (.int .i64 1) ∧ ∃ m, w' = w.drewN m) := fun w => by
    have := arith.gcd_any (a / arith.gcdOf a b) (b / arith.gcdOf a b) w (by omega) (by omega) (by omega) (by omega)
    rw [arith.gcdOf_one a1 b1] at this; exact this
  have z : (arith.gcdOf a b == 0) = false := by simp; omega
  have z' : ¬ arith.gcdOf a b = 0 := by omega
  have v1 : IntKind.i64.wrap (a.tdiv (arith.gcdOf a b)) = a / arith.gcdOf a b := IntWalk.i64_quo _ _ ⟨by omega, a2, g1⟩
  have v2 : IntKind.i64.wrap (b.tdiv (arith.gcdOf a b)) = b / arith.gcdOf a b := IntWalk.i64_quo _ _ ⟨by omega, b2, g1⟩
  go_enter Try.func4, Try.ntmps4
  go_wp2_with (first | (go_at_call 12; refine (arith.gcd_any _ _ _ (by omega) (by omega) (by omega) (by omega)).mono ?_; rintro e w' ⟨rfl, m1, rfl⟩) | (go_at_call 11; refine (arith.awake_any _).mono ?_; rintro e w1 ⟨rfl, hb1⟩) | (go_at_call 13; refine (HY.out _).mono ?_; rintro e w' ⟨rfl, m1, rfl⟩))
  have HB := arith.of_below hb1
  clear hb1
  go_loopw [6] (fun d wr => ∃ k : Nat, 2 ≤ k ∧ k ≤ 301 ∧ d = .int .i64 k ∧ ∃ m, wr = w1.drewN m) (fun d _ => 301 - (intOf d).toNat)
  case atStart => exact ⟨2, by omega, by omega, rfl, _, rfl⟩
  case round =>
    obtain ⟨k, hk1, hk2, rfl, m, hwm⟩ := hrel
    have HW := Lib.hid hwm
    clear hwm
    by_cases hk : (k : Int) ≤ 300
    · go_wp2
      go_quiet ((go_at_call 13; exact Calls.quiet_of (HN.out _ _ (by omega) (by omega))))
      go_wp2
      go_roundw
      case rel => exact ⟨k + 1, by omega, by omega, by go_num, m + nq, by rw [HW.out, World.drewN_drewN]⟩
      case measure => simp [intOf]; omega
    · go_wp2
      go_quiet ((go_at_call 12; exact Calls.quiet_of (HG.out _)))
      go_wp2
      go_ret
      exact ⟨rfl, arith.below_drewN (by rw [HW.out]; exact arith.below_drewN HB _) _⟩

theorem walk (a0 : Int) (a1 : Int) (w0 : (Lit.int .i64 a0).wf = true) (w1 : (Lit.int .i64 a1).wf = true) (w : World) :
    Calls Try.prog 4 #[.int .i64 a0, .int .i64 a1] w fun e w' => e = .returned (.bool true) ∧ Below w.heap.size w w' := by
  have b0 := bounds_i64 w0
  have b1 := bounds_i64 w1
  clear w0 w1
  by_cases h : a0 < 1 ∨ a1 < 1
  · exact walk_low a0 a1 w b0 b1 h
  · exact walk_pos a0 a1 w (by omega) b0.2 (by omega) b1.2

set_option maxRecDepth 100000 in
theorem lifted (os : Os) (started : os.Started) (H : Type) (enc : TypeId × Value → H) :
    ReturnsInHanded {} Try.checked os 4 .any (Rows.arithGcdSpec.pre6 enc Try.prog Try.f4 Rows.arithGcdRow.domain false) (Rows.arithGcdSpec.post enc Try.prog Try.f4 false true false false) := by
  refine returnsInHanded_of_change (C := Try.checked) own started (by kernel_rfl) Try.func4
    (ChangeSpec.witness6 (enc := enc) (C := Try.checked) false ⟨#[], #[.int .i64 0, .int .i64 0], []⟩ 8 (by kernel_rfl) (by kernel_rfl) (by kernel_rfl) (by kernel_rfl)) ?_
  intro W base args ds gs before hval0 hW hcnd _
  have hval : ∀ (j : Nat) t v, Try.f4.params[j]? = some t → args[j]? = some v → Value.okWide Try.prog W .any base t v := hval0
  have hW' := hW
  obtain ⟨p, q, hA0, hV, rfl, hfz, hnd⟩ := hW
  have hA : DataW.TrodAll enc Try.prog W 0 (fun _ => true) true Try.f4.params.toList args.toList ds p := hA0
  rw [Try.params4] at hA hval
  obtain ⟨v0, vs0, d0, ds0, p0, q0, hargs, rfl, rfl, h0, r0⟩ := trodAll_cons hA
  obtain ⟨v1, vs1, d1, ds1, p1, q1, rfl, rfl, rfl, h1, r1⟩ := trodAll_cons r0
  obtain ⟨rfl, rfl, rfl⟩ := trodAll_nil r1
  obtain rfl : args = #[v0, v1] := by cases args; simp_all
  obtain ⟨rfl, rfl⟩ := trodVars_none hV
  obtain ⟨a0, rfl, rfl, rfl, w0⟩ := open_int Try.underlying2 (hval 0 2 v0 rfl rfl) h0
  obtain ⟨a1, rfl, rfl, rfl, w1⟩ := open_int Try.underlying2 (hval 1 2 v1 rfl rfl) h1
  clear hA0 hval0
  refine (walk a0 a1 w0 w1 W).mono fun e W' ⟨he, bel⟩ => ?_
  subst he
  exact ⟨_, rfl, _, _, _, [], _, [], hW', trodAll_mk1 (shut_bool Try.underlying4 _), (trodAll_cons_mk (shut_int Try.underlying2 w0) (trodAll_cons_mk (shut_int Try.underlying2 w1) trodAll_mk0)), rfl, bel.frame _, fun h => by cases h⟩

theorem over : Rows.arithGcdRow.holds Try.pinned (OpenSpec.ofChange Rows.arithGcdSpec) :=
  OpenClaim.holds_of_wide 4 Try.f4 rfl rfl rfl rfl rfl rfl rfl ⟨rfl, rfl, rfl, rfl, rfl⟩ rfl rfl rfl rfl rfl (by kernel_rfl) Try.func4 (by kernel_rfl)
    (of_decide_eq_true (by kernel_rfl)) (by unfold Func.isWrapper; first | (rw [if_pos (by decide +kernel)]; kernel_rfl) | (rw [if_neg (by decide +kernel)]; exact ⟨rfl, rfl⟩))
    (fun os started H enc _ => lifted os started H enc)

theorem proved : Rows.ArithGcdSaid := over
end Go.Proofs.Ytppcooaglkaepaa.arithGcd
