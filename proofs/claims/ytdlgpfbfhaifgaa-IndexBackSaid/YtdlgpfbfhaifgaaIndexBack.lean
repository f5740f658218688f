/-
  IndexBack returns true for all arguments, and what was in memory stays as it was. No conditions.
-/
import Derived.Test.YtdlgpfbfhaifgaaRef07B
import Derived.Test.YtdlgpfbfhaifgaaOps
import Derived.Test.YtdlgpfbfhaifgaaRows
import Derived.WalkKit
import Derived.ProofKit
import Derived.OpenShut
import Derived.ShutString
import Derived.ChangeOld
import Derived.Below
import Derived.Carry
import Derived.Lib.SmallJoins
namespace Go.Proofs.Ytdlgpfbfhaifgaa.indexBack
open Go.ChangeShapes Go.WideShapes Go.ChangeAt Go.RowKit Go.Joins
set_option linter.unusedVariables false

theorem own : ownKnob Try.prog.godebug = none := by kernel_rfl
theorem laidOut : laidOutB Try.prog = true := by kernel_rfl

open index syn lite clock

theorem backA_in : ∀ (l : List Op3) (n : Int), l.any wrongB = false → 0 ≤ n → n ≤ 1099511627776 → (∃ m, backA l n = .ok m ∧ 0 ≤ m ∧ m ≤ 1099511627776) ∨ (∃ N, backA l n = .error (0, N, 2)) ∨ backA l n = .error (0, 0, 0) := by
  intro l
  induction l with
  | nil => intro n _ h0 h1; exact .inl ⟨n, rfl, h0, h1⟩
  | cons o l ih =>
    intro n hw h0 h1
    rw [List.any_cons, Bool.or_eq_false_iff] at hw
    rw [backA]
    by_cases hb : n = 0 ∧ beginsB o = true
    · have : stepA o n = .error (0, o.2.1, 2) := by unfold stepA; exact if_pos hb
      rw [this]; exact .inr (.inl ⟨_, rfl⟩)
    · cases hs : stepP o n with
      | none =>
        have : stepA o n = .error (0, 0, 0) := by unfold stepA; rw [if_neg hb, hs]
        rw [this]; exact .inr (.inr rfl)
      | some t =>
        have : stepA o n = .ok t := by unfold stepA; rw [if_neg hb, hs]
        rw [this]
        have ht := stepP_in hw.1 h0 h1 hb hs
        exact ih t hw.2 ht.1 ht.2

theorem backP_in (l : List Op3) (n : Int) : (∃ m, backP l n = (m, 0, 1) ∧ 0 ≤ m ∧ m ≤ 1099511627776) ∨ (∃ N, backP l n = (0, N, 2)) ∨ backP l n = (0, 0, 0) := by
  unfold backP
  by_cases h : n < 0 ∨ 1099511627776 < n ∨ l.any wrongB = true
  · rw [if_pos h]; exact .inr (.inr rfl)
  · rw [if_neg h]
    have hw : l.reverse.any wrongB = false := by
      rw [List.any_reverse]
      cases hw : l.any wrongB with
      | false => rfl
      | true => exact absurd (Or.inr (Or.inr hw)) h
    rcases backA_in l.reverse n hw (by omega) (by omega) with ⟨m, h1, h2, h3⟩ | ⟨N, h1⟩ | h1
    · rw [h1]; exact .inl ⟨m, rfl, h2, h3⟩
    · rw [h1]; exact .inr (.inl ⟨N, rfl⟩)
    · rw [h1]; exact .inr (.inr rfl)

theorem back_long (l : List Op3) (ad : Option Addr) (cap : Nat) (n : Int) (w : World) (hl : l.length ≤ 9223372036854775807) (hA : OpA w ad l) (h : 30 < l.length) :
    Calls Try.prog 5 #[.slice ad l.length cap, .int .i64 n] w fun e w' => e = .returned (.bool true) ∧ Below w.heap.size w w' := by
  have h30 : decide ((30 : Int) < (l.length : Int)) = true := decide_eq_true (by omega)
  have HB := Lib.hid (Below.refl w.heap.size w)
  clear hA
  go_enter Try.func5, Try.ntmps5
  go_wp2_with (first | (go_at_call 7; (with_reducible refine (awake07 _).mono ?_); rintro e w1 ⟨rfl, hbx⟩; replace HB := Lib.hid (HB.out.trans (hbx.mono HB.out.size)); clear hbx))
  go_ret
  exact ⟨rfl, (by first | exact HB.out | exact HB.out.alloc HB.out.size _)⟩

theorem back_low (l : List Op3) (ad : Option Addr) (cap : Nat) (n : Int) (w : World) (hl : l.length ≤ 9223372036854775807) (hA : OpA w ad l) (h : l.length ≤ 30) (hn : n < 0) (hv : backP l n = (0, 0, 0)) :
    Calls Try.prog 5 #[.slice ad l.length cap, .int .i64 n] w fun e w' => e = .returned (.bool true) ∧ Below w.heap.size w w' := by
  have h30 : decide ((30 : Int) < (l.length : Int)) = false := decide_eq_false (by omega)
  have hn0 : decide (n < 0) = true := decide_eq_true hn
  have HBK := Lib.hid (fun w1 (hb : Below w.heap.size w w1) => back_any l ad cap n w1 hl (hA.below hb (Nat.le_refl _)))
  rw [hv] at HBK
  simp only [T3] at HBK
  have HB := Lib.hid (Below.refl w.heap.size w)
  clear hA
  go_enter Try.func5, Try.ntmps5
  go_wp2_with (first | (go_at_call 7; (with_reducible refine (awake07 _).mono ?_); rintro e w1 ⟨rfl, hbx⟩; replace HB := Lib.hid (HB.out.trans (hbx.mono HB.out.size)); clear hbx) | (go_at_call 9; (with_reducible refine (HBK.out _ HB.out).mono ?_); rintro e w2 ⟨rfl, hbx⟩; replace HB := Lib.hid (HB.out.trans (hbx.mono HB.out.size)); clear hbx))
  go_ret
  exact ⟨rfl, (by first | exact HB.out | exact HB.out.alloc HB.out.size _)⟩

theorem back_high (l : List Op3) (ad : Option Addr) (cap : Nat) (n : Int) (w : World) (hl : l.length ≤ 9223372036854775807) (hA : OpA w ad l) (h : l.length ≤ 30) (hn : 1099511627776 < n) (hv : backP l n = (0, 0, 0)) :
    Calls Try.prog 5 #[.slice ad l.length cap, .int .i64 n] w fun e w' => e = .returned (.bool true) ∧ Below w.heap.size w w' := by
  have h30 : decide ((30 : Int) < (l.length : Int)) = false := decide_eq_false (by omega)
  have hn0 : decide (n < 0) = false := decide_eq_false (by omega)
  have hn1 : decide (1099511627776 < n) = true := decide_eq_true hn
  have HBK := Lib.hid (fun w1 (hb : Below w.heap.size w w1) => back_any l ad cap n w1 hl (hA.below hb (Nat.le_refl _)))
  rw [hv] at HBK
  simp only [T3] at HBK
  have HB := Lib.hid (Below.refl w.heap.size w)
  clear hA
  go_enter Try.func5, Try.ntmps5
  go_wp2_with (first | (go_at_call 7; (with_reducible refine (awake07 _).mono ?_); rintro e w1 ⟨rfl, hbx⟩; replace HB := Lib.hid (HB.out.trans (hbx.mono HB.out.size)); clear hbx) | (go_at_call 9; (with_reducible refine (HBK.out _ HB.out).mono ?_); rintro e w2 ⟨rfl, hbx⟩; replace HB := Lib.hid (HB.out.trans (hbx.mono HB.out.size)); clear hbx))
  go_ret
  exact ⟨rfl, (by first | exact HB.out | exact HB.out.alloc HB.out.size _)⟩

theorem back_wrong_none (l : List Op3) (ad : Option Addr) (cap : Nat) (n : Int) (w : World) (hl : l.length ≤ 9223372036854775807) (hA : OpA w ad l) (h : l.length ≤ 30) (h0 : 0 ≤ n) (h1 : n ≤ 1099511627776) (hr : rightL l = false) (hv : backP l n = (0, 0, 0)) :
    Calls Try.prog 5 #[.slice ad l.length cap, .int .i64 n] w fun e w' => e = .returned (.bool true) ∧ Below w.heap.size w w' := by
  have h30 : decide ((30 : Int) < (l.length : Int)) = false := decide_eq_false (by omega)
  have hn0 : decide (n < 0) = false := decide_eq_false (by omega)
  have hn1 : decide (1099511627776 < n) = false := decide_eq_false (by omega)
  have HBK := Lib.hid (fun w1 (hb : Below w.heap.size w w1) => back_any l ad cap n w1 hl (hA.below hb (Nat.le_refl _)))
  rw [hv] at HBK
  simp only [T3] at HBK
  have HRT := Lib.hid (fun w1 (hb : Below w.heap.size w w1) => right07_any l ad cap w1 hl (hA.below hb (Nat.le_refl _)))
  rw [hr] at HRT
  have HB := Lib.hid (Below.refl w.heap.size w)
  clear hA
  go_enter Try.func5, Try.ntmps5
  go_wp2_with (first | (go_at_call 7; (with_reducible refine (awake07 _).mono ?_); rintro e w1 ⟨rfl, hbx⟩; replace HB := Lib.hid (HB.out.trans (hbx.mono HB.out.size)); clear hbx) | (go_at_call 9; (with_reducible refine (HBK.out _ HB.out).mono ?_); rintro e w2 ⟨rfl, hbx⟩; replace HB := Lib.hid (HB.out.trans (hbx.mono HB.out.size)); clear hbx) | (go_at_call 8; (with_reducible refine (HRT.out _ HB.out).mono ?_); rintro e w3 ⟨rfl, hbx⟩; replace HB := Lib.hid (HB.out.trans (hbx.mono HB.out.size)); clear hbx))
  go_ret
  exact ⟨rfl, (by first | exact HB.out | exact HB.out.alloc HB.out.size _)⟩

theorem back_wrong_num (l : List Op3) (ad : Option Addr) (cap : Nat) (n : Int) (w : World) (hl : l.length ≤ 9223372036854775807) (hA : OpA w ad l) (h : l.length ≤ 30) (h0 : 0 ≤ n) (h1 : n ≤ 1099511627776) (hr : rightL l = false) (N : Int) (hv : backP l n = (0, N, 2)) :
    Calls Try.prog 5 #[.slice ad l.length cap, .int .i64 n] w fun e w' => e = .returned (.bool true) ∧ Below w.heap.size w w' := by
  have h30 : decide ((30 : Int) < (l.length : Int)) = false := decide_eq_false (by omega)
  have hn0 : decide (n < 0) = false := decide_eq_false (by omega)
  have hn1 : decide (1099511627776 < n) = false := decide_eq_false (by omega)
  have HBK := Lib.hid (fun w1 (hb : Below w.heap.size w w1) => back_any l ad cap n w1 hl (hA.below hb (Nat.le_refl _)))
  rw [hv] at HBK
  simp only [T3] at HBK
  have HRT := Lib.hid (fun w1 (hb : Below w.heap.size w w1) => right07_any l ad cap w1 hl (hA.below hb (Nat.le_refl _)))
  rw [hr] at HRT
  have HB := Lib.hid (Below.refl w.heap.size w)
  clear hA
  go_enter Try.func5, Try.ntmps5
  go_wp2_with (first | (go_at_call 7; (with_reducible refine (awake07 _).mono ?_); rintro e w1 ⟨rfl, hbx⟩; replace HB := Lib.hid (HB.out.trans (hbx.mono HB.out.size)); clear hbx) | (go_at_call 9; (with_reducible refine (HBK.out _ HB.out).mono ?_); rintro e w2 ⟨rfl, hbx⟩; replace HB := Lib.hid (HB.out.trans (hbx.mono HB.out.size)); clear hbx) | (go_at_call 8; (with_reducible refine (HRT.out _ HB.out).mono ?_); rintro e w3 ⟨rfl, hbx⟩; replace HB := Lib.hid (HB.out.trans (hbx.mono HB.out.size)); clear hbx))
  go_ret
  exact ⟨rfl, (by first | exact HB.out | exact HB.out.alloc HB.out.size _)⟩

theorem back_wrong_place (l : List Op3) (ad : Option Addr) (cap : Nat) (n : Int) (w : World) (hl : l.length ≤ 9223372036854775807) (hA : OpA w ad l) (h : l.length ≤ 30) (h0 : 0 ≤ n) (h1 : n ≤ 1099511627776) (hr : rightL l = false) (m : Int) (m0 : 0 ≤ m) (m1 : m ≤ 1099511627776) (hv : backP l n = (m, 0, 1)) :
    Calls Try.prog 5 #[.slice ad l.length cap, .int .i64 n] w fun e w' => e = .returned (.bool true) ∧ Below w.heap.size w w' := by
  have h30 : decide ((30 : Int) < (l.length : Int)) = false := decide_eq_false (by omega)
  have hn0 : decide (n < 0) = false := decide_eq_false (by omega)
  have hn1 : decide (1099511627776 < n) = false := decide_eq_false (by omega)
  have HBK := Lib.hid (fun w1 (hb : Below w.heap.size w w1) => back_any l ad cap n w1 hl (hA.below hb (Nat.le_refl _)))
  rw [hv] at HBK
  simp only [T3] at HBK
  have HRT := Lib.hid (fun w1 (hb : Below w.heap.size w w1) => right07_any l ad cap w1 hl (hA.below hb (Nat.le_refl _)))
  rw [hr] at HRT
  have hm0 : decide (0 ≤ m) = true := decide_eq_true m0
  have hm1 : decide (m ≤ 1099511627776) = true := decide_eq_true m1
  have HB := Lib.hid (Below.refl w.heap.size w)
  clear hA
  go_enter Try.func5, Try.ntmps5
  go_wp2_with (first | (go_at_call 7; (with_reducible refine (awake07 _).mono ?_); rintro e w1 ⟨rfl, hbx⟩; replace HB := Lib.hid (HB.out.trans (hbx.mono HB.out.size)); clear hbx) | (go_at_call 9; (with_reducible refine (HBK.out _ HB.out).mono ?_); rintro e w2 ⟨rfl, hbx⟩; replace HB := Lib.hid (HB.out.trans (hbx.mono HB.out.size)); clear hbx) | (go_at_call 8; (with_reducible refine (HRT.out _ HB.out).mono ?_); rintro e w3 ⟨rfl, hbx⟩; replace HB := Lib.hid (HB.out.trans (hbx.mono HB.out.size)); clear hbx))
  go_ret
  exact ⟨rfl, (by first | exact HB.out | exact HB.out.alloc HB.out.size _)⟩

theorem back_right (l : List Op3) (ad : Option Addr) (cap : Nat) (n : Int) (w : World) (hl : l.length ≤ 9223372036854775807) (hA : OpA w ad l) (h : l.length ≤ 30) (h0 : 0 ≤ n) (h1 : n ≤ 1099511627776) (hr : rightL l = true) (x y z : Int) (hv : backP l n = (x, y, z)) (hro : l.all rightO = true) (hv2 : outA (backA l.reverse n) = (x, y, z)) :
    Calls Try.prog 5 #[.slice ad l.length cap, .int .i64 n] w fun e w' => e = .returned (.bool true) ∧ Below w.heap.size w w' := by
  have h30 : decide ((30 : Int) < (l.length : Int)) = false := decide_eq_false (by omega)
  have hn0 : decide (n < 0) = false := decide_eq_false (by omega)
  have hn1 : decide (1099511627776 < n) = false := decide_eq_false (by omega)
  have HBK := Lib.hid (fun w1 (hb : Below w.heap.size w w1) => back_any l ad cap n w1 hl (hA.below hb (Nat.le_refl _)))
  rw [hv] at HBK
  simp only [T3] at HBK
  have HRT := Lib.hid (fun w1 (hb : Below w.heap.size w w1) => right07_any l ad cap w1 hl (hA.below hb (Nat.le_refl _)))
  rw [hr] at HRT
  have HRB := Lib.hid (fun w1 (hb : Below w.heap.size w w1) => refBack_any l ad cap n w1 hl (hA.below hb (Nat.le_refl _)) h0 h1 hro)
  rw [hv2] at HRB
  simp only [Agg3] at HRB
  have HB := Lib.hid (Below.refl w.heap.size w)
  clear hA
  go_enter Try.func5, Try.ntmps5
  go_wp2_with (first | (go_at_call 7; (with_reducible refine (awake07 _).mono ?_); rintro e w1 ⟨rfl, hbx⟩; replace HB := Lib.hid (HB.out.trans (hbx.mono HB.out.size)); clear hbx) | (go_at_call 9; (with_reducible refine (HBK.out _ HB.out).mono ?_); rintro e w2 ⟨rfl, hbx⟩; replace HB := Lib.hid (HB.out.trans (hbx.mono HB.out.size)); clear hbx) | (go_at_call 8; (with_reducible refine (HRT.out _ HB.out).mono ?_); rintro e w3 ⟨rfl, hbx⟩; replace HB := Lib.hid (HB.out.trans (hbx.mono HB.out.size)); clear hbx) | (go_at_call 11; (with_reducible refine (HRB.out _ HB.out).mono ?_); rintro e w4 ⟨rfl, hbx⟩; replace HB := Lib.hid (HB.out.trans (hbx.mono HB.out.size)); clear hbx))
  go_ret
  exact ⟨rfl, (by first | exact HB.out | exact HB.out.alloc HB.out.size _)⟩

theorem walk (v : Value) (n : Int) (w : World) (hv : InOps w v) :
    Calls Try.prog 5 #[v, .int .i64 n] w fun e w' => e = .returned (.bool true) ∧ Below w.heap.size w w' := by
  obtain ⟨l, ad, cap, hr, h1, h2, rfl⟩ := hv
  have hA := opA_row hr
  have hl : l.length ≤ 9223372036854775807 := by omega
  by_cases h30 : 30 < l.length
  · exact back_long l ad cap n w hl hA h30
  · have h30' : l.length ≤ 30 := by omega
    by_cases hn0 : n < 0
    · exact back_low l ad cap n w hl hA h30' hn0 (by unfold backP; rw [if_pos (Or.inl hn0)])
    · by_cases hn1 : 1099511627776 < n
      · exact back_high l ad cap n w hl hA h30' hn1 (by unfold backP; rw [if_pos (Or.inr (Or.inl hn1))])
      · cases hrt : rightL l with
        | false =>
          rcases backP_in l n with ⟨m, g1, g2, g3⟩ | ⟨N, g1⟩ | g1
          · exact back_wrong_place l ad cap n w hl hA h30' (by omega) (by omega) hrt m g2 g3 g1
          · exact back_wrong_num l ad cap n w hl hA h30' (by omega) (by omega) hrt N g1
          · exact back_wrong_none l ad cap n w hl hA h30' (by omega) (by omega) hrt g1
        | true =>
          have hro : l.all rightO = true := by unfold rightL at hrt; rw [Bool.and_eq_true] at hrt; exact hrt.1
          have hw := rightL_wrong hrt
          have e : backP l n = outA (backA l.reverse n) := by unfold backP; rw [if_neg (by rw [hw]; simp; omega)]
          rcases hx : outA (backA l.reverse n) with ⟨x, y, z⟩
          exact back_right l ad cap n w hl hA h30' (by omega) (by omega) hrt x y z (by rw [e, hx]) hro hx

set_option maxRecDepth 100000 in
theorem lifted (os : Os) (started : os.Started) (H : Type) (enc : TypeId × Value → H) :
    ReturnsInHanded {} Try.checked os 5 .any (Rows.indexBackSpec.pre6 enc Try.prog Try.f5 Rows.indexBackRow.domain false) (Rows.indexBackSpec.post enc Try.prog Try.f5 false true false false) := by
  refine returnsInHanded_of_change (C := Try.checked) own started (by kernel_rfl) Try.func5
    (ChangeSpec.witness6 (enc := enc) (C := Try.checked) false ⟨#[], #[.slice none 0 0, .int .i64 0], []⟩ 8 (by kernel_rfl) (by kernel_rfl) (by kernel_rfl) (by kernel_rfl)) ?_
  intro W base args ds gs before hval0 hW hcnd _
  have hval : ∀ (j : Nat) t v, Try.f5.params[j]? = some t → args[j]? = some v → Value.okWide Try.prog W .any base t v := hval0
  have hW' := hW
  obtain ⟨p, q, hA0, hV, rfl, hfz, hnd⟩ := hW
  have hA : DataW.TrodAll enc Try.prog W 0 (fun _ => true) true Try.f5.params.toList args.toList ds p := hA0
  rw [Try.params5] at hA hval
  obtain ⟨v0, vs0, d0, ds0, q0, qs0, hargs, rfl, rfl, h0, r0⟩ := trodAll_cons hA
  obtain ⟨v1, vs1, d1, ds1, q1, qs1, rfl, rfl, rfl, h1, r1⟩ := trodAll_cons r0
  obtain ⟨rfl, rfl, rfl⟩ := trodAll_nil r1
  obtain rfl : args = #[v0, v1] := by cases args; simp_all
  obtain ⟨rfl, rfl⟩ := trodVars_none hV
  have k0 := h0
  have lt0 : ∀ x ∈ q0, x.block < W.heap.size := by obtain ⟨m, hm⟩ := k0; exact DataW.trod_lt m _ _ _ hm
  have k1 := h1
  have lt1 : ∀ x ∈ q1, x.block < W.heap.size := by obtain ⟨m, hm⟩ := k1; exact DataW.trod_lt m _ _ _ hm
  have w0 := open_opsV (hval 0 22 v0 rfl rfl) h0
  obtain ⟨a1, rfl, rfl, rfl, w1⟩ := open_int Try.underlying2 (hval 1 2 v1 rfl rfl) h1
  clear hA0 hval0
  refine (walk v0 a1 W w0).mono fun e W' ⟨he, bel⟩ => ?_
  subst he
  exact ⟨_, rfl, _, _, _, [], _, [], hW', trodAll_mk1 (shut_bool Try.underlying4 _), (trodAll_cons_mk (Below.trod laidOut (by kernel_rfl) (of_decide_eq_true (by kernel_rfl)) k0 bel lt0) (trodAll_cons_mk (Below.trod laidOut (by kernel_rfl) (of_decide_eq_true (by kernel_rfl)) k1 bel lt1) trodAll_mk0)), rfl, bel.frame _, fun h => by cases h⟩

theorem over : Rows.indexBackRow.holds Try.pinned (OpenSpec.ofChange Rows.indexBackSpec) :=
  OpenClaim.holds_of_wide 5 Try.f5 rfl rfl rfl rfl rfl rfl rfl ⟨rfl, rfl, rfl, rfl, rfl⟩ rfl rfl rfl rfl rfl (by kernel_rfl) Try.func5 (by kernel_rfl)
    (of_decide_eq_true (by kernel_rfl)) (by unfold Func.isWrapper; first | (rw [if_pos (by decide +kernel)]; kernel_rfl) | (rw [if_neg (by decide +kernel)]; exact ⟨rfl, rfl⟩))
    (fun os started H enc _ => lifted os started H enc)

theorem proved : Rows.IndexBackSaid := over
end Go.Proofs.Ytdlgpfbfhaifgaa.indexBack
