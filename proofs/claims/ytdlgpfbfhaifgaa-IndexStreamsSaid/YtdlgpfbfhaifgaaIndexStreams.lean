/-
  IndexStreams returns true for all arguments, and what was in memory stays as it was. No conditions.
-/
import Derived.Test.YtdlgpfbfhaifgaaStream7
import Derived.Test.YtdlgpfbfhaifgaaOps
import Derived.Test.YtdlgpfbfhaifgaaRows
import Derived.WalkKit
import Derived.ProofKit
import Derived.OpenShut
import Derived.ShutString
import Derived.ChangeOld
import Derived.Below
import Derived.Carry
import Derived.Lib.SmallJoins
namespace Go.Proofs.Ytdlgpfbfhaifgaa.indexStreams
open Go.ChangeShapes Go.WideShapes Go.ChangeAt Go.RowKit Go.Joins
set_option linter.unusedVariables false

theorem own : ownKnob Try.prog.godebug = none := by kernel_rfl
theorem laidOut : laidOutB Try.prog = true := by kernel_rfl

open index syn lite clock

def LRel (w wx : World) (n : Nat) (v4 : Value) (wr : World) : Prop := ∃ k : Nat, k ≤ n ∧ v4 = .int .i64 k ∧ Below wx.heap.size wx wr

theorem streams_no (l : List Op3) (da : Option Addr) (ca : Nat) (w : World) (hl : l.length ≤ 9223372036854775807) (hA : OpA w da l) (hr : rightL l = false) :
    Calls Try.prog 4 #[.slice da l.length ca] w fun e w' => e = .returned (.bool true) ∧ Below w.heap.size w w' := by
  have HRA := Lib.hid (fun w1 (hb : Below w.heap.size w w1) => right07_any l da ca w1 hl (hA.below hb (Nat.le_refl _)))
  rw [hr] at HRA
  have HB := Lib.hid (Below.refl w.heap.size w)
  clear hA
  go_enter Try.func4, Try.ntmps4
  go_wp2_with (first | (go_at_call 7; (with_reducible refine (awake07 _).mono ?_); rintro e wx ⟨rfl, hbx⟩; replace HB := Lib.hid (HB.out.trans (hbx.mono HB.out.size)); clear hbx) | (go_at_call 8; (with_reducible refine (HRA.out _ HB.out).mono ?_); rintro e wx ⟨rfl, hbx⟩; replace HB := Lib.hid (HB.out.trans (hbx.mono HB.out.size)); clear hbx))
  go_ret
  exact ⟨rfl, HB.out⟩

set_option maxHeartbeats 4000000 in
theorem streams_yes (l : List Op3) (da : Option Addr) (ca : Nat) (w : World) (hl : l.length ≤ 9223372036854775807) (hA : OpA w da l) (hr : rightL l = true) :
    Calls Try.prog 4 #[.slice da l.length ca] w fun e w' => e = .returned (.bool true) ∧ Below w.heap.size w w' := by
  have hro : l.all rightO = true := by unfold rightL at hr; rw [Bool.and_eq_true] at hr; exact hr.1
  have hl20 : l.length ≤ 20 := by unfold rightL at hr; rw [Bool.and_eq_true] at hr; exact of_decide_eq_true hr.2
  have HWR := Lib.hid (rightL_wrong hr)
  have HRA := Lib.hid (fun w1 (hb : Below w.heap.size w w1) => right07_any l da ca w1 hl (hA.below hb (Nat.le_refl _)))
  rw [hr] at HRA
  have HST := Lib.hid (fun w1 (hb : Below w.heap.size w w1) => stream_any l da ca w1 hl20 (hA.below hb (Nat.le_refl _)) hro)
  have HBK := Lib.hid (fun i w1 (hb : Below w.heap.size w w1) => back_any l da ca i w1 hl (hA.below hb (Nat.le_refl _)))
  have HB := Lib.hid (Below.refl w.heap.size w)
  clear hA hr hro
  go_enter Try.func4, Try.ntmps4
  go_wp2_with (first | (go_at_call 7; (with_reducible refine (awake07 _).mono ?_); rintro e wx ⟨rfl, hbx⟩; replace HB := Lib.hid (HB.out.trans (hbx.mono HB.out.size)); clear hbx) | (go_at_call 8; (with_reducible refine (HRA.out _ HB.out).mono ?_); rintro e wx ⟨rfl, hbx⟩; replace HB := Lib.hid (HB.out.trans (hbx.mono HB.out.size)); clear hbx) | (go_at_call 10; (with_reducible refine (HST.out _ HB.out).mono ?_); rintro e wx ⟨⟨S, ads, cps, rfl, hos, hps, hS⟩, hbx⟩; have HOS := Lib.hid hos; have HPS := Lib.hid hps; clear hos hps; replace HB := Lib.hid (HB.out.trans (hbx.mono HB.out.size)); clear hbx))
  have hsx := HB.out.size
  go_loopw [4] (fun v4 wr => Hid (LRel w wx S.length v4 wr)) (fun i _ => S.length - (intOf i).toNat)
  case atStart => exact ⟨0, by omega, rfl, Below.refl _ _⟩
  case round =>
    obtain ⟨k, hk, rfl, hBL⟩ := hrel.out
    clear hrel
    have hbx : Below w.heap.size w wr := HB.out.trans (hBL.mono hsx)
    have HBX := Lib.hid hbx
    have HBL := Lib.hid hBL
    have hsl := hBL.size
    by_cases hlt : k < S.length
    · obtain ⟨b, off, rfl, hb, c0, c1, c2⟩ := (HOS.out.below hBL (Nat.le_refl _)) k hlt
      have hv : backP l (k : Int) = S.getD k (0, 0, 0) := by
        have hw := HWR.out
        rw [HPS.out k hlt]
        unfold backP; rw [if_neg (by rw [hw]; simp; omega)]
      have HC := Lib.hid (HBK.out (k : Int) wr hbx)
      rw [hv] at HC
      simp only [T3] at HC
      obtain ⟨x, hx⟩ : ∃ x, S.getD k (0, 0, 0) = x := ⟨_, rfl⟩
      rw [hx] at c0 c1 c2 HC
      clear hx hv hbx hBL
      obtain ⟨xk, xn, xd⟩ := x
      simp only at c0 c1 c2 HC
      have g1 : (k : Int) < (S.length : Int) := by omega
      go_wp2_with (go_at_call 9; (with_reducible refine HC.out.mono ?_); rintro e w4 ⟨rfl, hb4⟩; have HB4 := Lib.hid hb4; have y0 : w4.cell? ⟨b, off + k * 3, none⟩ = some (.int .i64 xk) := (hb4.cell (p := ⟨b, _, none⟩) hb).trans c0; have y1 : w4.cell? ⟨b, off + k * 3 + 1, none⟩ = some (.int .i64 xn) := (hb4.cell (p := ⟨b, _, none⟩) hb).trans c1; have y2 : w4.cell? ⟨b, off + k * 3 + 2, none⟩ = some (.int .i64 xd) := (hb4.cell (p := ⟨b, _, none⟩) hb).trans c2; clear hb4)
      go_roundw
      case rel => exact ⟨k + 1, by omega, by go_num, HBL.out.trans (HB4.out.mono hsl)⟩
      case measure => first | (simp [intOf]; done) | (simp [intOf]; omega)
    · have g1 : decide ((k : Int) < (S.length : Int)) = false := decide_eq_false (by omega)
      clear hbx hBL
      go_wp2
      go_ret
      exact ⟨rfl, HBX.out⟩

theorem walk (v : Value) (w : World) (hv : InOps w v) :
    Calls Try.prog 4 #[v] w fun e w' => e = .returned (.bool true) ∧ Below w.heap.size w w' := by
  obtain ⟨l, ad, cap, hr, h1, h2, rfl⟩ := hv
  have hA := opA_row hr
  have hl : l.length ≤ 9223372036854775807 := by omega
  cases hrt : rightL l with
  | false => exact streams_no l ad cap w hl hA hrt
  | true => exact streams_yes l ad cap w hl hA hrt

set_option maxRecDepth 100000 in
theorem lifted (os : Os) (started : os.Started) (H : Type) (enc : TypeId × Value → H) :
    ReturnsInHanded {} Try.checked os 4 .any (Rows.indexStreamsSpec.pre6 enc Try.prog Try.f4 Rows.indexStreamsRow.domain false) (Rows.indexStreamsSpec.post enc Try.prog Try.f4 false true false false) := by
  refine returnsInHanded_of_change (C := Try.checked) own started (by kernel_rfl) Try.func4
    (ChangeSpec.witness6 (enc := enc) (C := Try.checked) false ⟨#[], #[.slice none 0 0], []⟩ 8 (by kernel_rfl) (by kernel_rfl) (by kernel_rfl) (by kernel_rfl)) ?_
  intro W base args ds gs before hval0 hW hcnd _
  have hval : ∀ (j : Nat) t v, Try.f4.params[j]? = some t → args[j]? = some v → Value.okWide Try.prog W .any base t v := hval0
  have hW' := hW
  obtain ⟨p, q, hA0, hV, rfl, hfz, hnd⟩ := hW
  have hA : DataW.TrodAll enc Try.prog W 0 (fun _ => true) true Try.f4.params.toList args.toList ds p := hA0
  rw [Try.params4] at hA hval
  obtain ⟨v0, vs0, d0, ds0, q0, qs0, hargs, rfl, rfl, h0, r0⟩ := trodAll_cons hA
  obtain ⟨rfl, rfl, rfl⟩ := trodAll_nil r0
  obtain rfl : args = #[v0] := by cases args; simp_all
  obtain ⟨rfl, rfl⟩ := trodVars_none hV
  have k0 := h0
  have lt0 : ∀ x ∈ q0, x.block < W.heap.size := by obtain ⟨m, hm⟩ := k0; exact DataW.trod_lt m _ _ _ hm
  have w0 := open_opsV (hval 0 22 v0 rfl rfl) h0
  clear hA0 hval0
  refine (walk v0 W w0).mono fun e W' ⟨he, bel⟩ => ?_
  subst he
  exact ⟨_, rfl, _, _, _, [], _, [], hW', trodAll_mk1 (shut_bool Try.underlying4 _), (trodAll_cons_mk (Below.trod laidOut (by kernel_rfl) (of_decide_eq_true (by kernel_rfl)) k0 bel lt0) trodAll_mk0), rfl, bel.frame _, fun h => by cases h⟩

theorem over : Rows.indexStreamsRow.holds Try.pinned (OpenSpec.ofChange Rows.indexStreamsSpec) :=
  OpenClaim.holds_of_wide 4 Try.f4 rfl rfl rfl rfl rfl rfl rfl ⟨rfl, rfl, rfl, rfl, rfl⟩ rfl rfl rfl rfl rfl (by kernel_rfl) Try.func4 (by kernel_rfl)
    (of_decide_eq_true (by kernel_rfl)) (by unfold Func.isWrapper; first | (rw [if_pos (by decide +kernel)]; kernel_rfl) | (rw [if_neg (by decide +kernel)]; exact ⟨rfl, rfl⟩))
    (fun os started H enc _ => lifted os started H enc)

theorem proved : Rows.IndexStreamsSaid := over
end Go.Proofs.Ytdlgpfbfhaifgaa.indexStreams
