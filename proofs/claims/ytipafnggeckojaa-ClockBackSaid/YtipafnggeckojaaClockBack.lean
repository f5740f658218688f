/-
  ClockBack returns true for all arguments, and what was in memory stays as it was. No conditions.
-/
import Derived.Test.YtipafnggeckojaaLaw02
import Derived.Test.YtipafnggeckojaaRows
import Derived.WalkKit
import Derived.ProofKit
import Derived.OpenShut
import Derived.ShutString
import Derived.ChangeOld
import Derived.Below
import Derived.Carry
import Derived.Lib.SmallJoins
namespace Go.Proofs.Ytipafnggeckojaa.clockBack
open Go.ChangeShapes Go.WideShapes Go.ChangeAt Go.RowKit Go.Joins
set_option linter.unusedVariables false

theorem own : ownKnob Try.prog.godebug = none := by kernel_rfl
theorem laidOut : laidOutB Try.prog = true := by kernel_rfl

open clock

theorem ap3 {p f n d x y : Int} (h : applyP p f 3 n d = (x, y, 0)) : p % n = 0 ∧ x = p / n ∧ y = f := by
  unfold applyP fin at h
  repeat' split at h
  all_goals (simp only [Prod.mk.injEq] at h; omega)
theorem ap4 {p f n d x y : Int} (h : applyP p f 4 n d = (x, y, 0)) : x = p * n ∧ y = f := by
  unfold applyP fin at h
  repeat' split at h
  all_goals (simp only [Prod.mk.injEq] at h; omega)
theorem ap7 {p f n d x y : Int} (h : applyP p f 7 n d = (x, y, 0)) : x = p ∧ y = f + p := by
  unfold applyP fin at h
  repeat' split at h
  all_goals (simp only [Prod.mk.injEq] at h; omega)
theorem ap8 {p f n d x y : Int} (h : applyP p f 8 n d = (x, y, 0)) : x = p ∧ y = f - p := by
  unfold applyP fin at h
  repeat' split at h
  all_goals (simp only [Prod.mk.injEq] at h; omega)
theorem two {p f k n d k2 n2 d2 x y : Int} (h : allP p f [(k, n, d), (k2, n2, d2)] = (x, y, 0)) : ∃ p1 f1, applyP p f k n d = (p1, f1, 0) ∧ applyP p1 f1 k2 n2 d2 = (x, y, 0) := by
  unfold allP at h
  split at h
  · rw [allFrom] at h
    rcases hr : applyP p f k n d with ⟨p1, f1, e1⟩
    simp only [hr] at h
    split at h
    · rename_i he; subst he
      rw [allFrom] at h
      rcases hr2 : applyP p1 f1 k2 n2 d2 with ⟨p2, f2, e2⟩
      simp only [hr2] at h
      split at h
      · rename_i he; subst he
        rw [allFrom] at h
        exact ⟨p1, f1, rfl, by rw [hr2, h]⟩
      · rename_i he; simp only [Prod.mk.injEq] at h; exact absurd h.2.2 he
    · rename_i he; simp only [Prod.mk.injEq] at h; exact absurd h.2.2 he
  · simp at h
theorem over_under {p f n x y : Int} (h : allP p f [(3, n, 0), (4, n, 0)] = (x, y, 0)) : x = p ∧ y = f := by
  obtain ⟨p1, f1, h1, h2⟩ := two h
  obtain ⟨hz, rfl, rfl⟩ := ap3 h1
  obtain ⟨rfl, rfl⟩ := ap4 h2
  have := Int.ediv_mul_add_emod p n
  exact ⟨by omega, rfl⟩
theorem cons_tail {p f x y : Int} (h : allP p f [(8, 0, 0), (7, 0, 0)] = (x, y, 0)) : x = p ∧ y = f := by
  obtain ⟨p1, f1, h1, h2⟩ := two h
  obtain ⟨rfl, rfl⟩ := ap8 h1
  obtain ⟨rfl, rfl⟩ := ap7 h2
  exact ⟨rfl, by omega⟩
theorem tail_cons {p f x y : Int} (h : allP p f [(7, 0, 0), (8, 0, 0)] = (x, y, 0)) : x = p ∧ y = f := by
  obtain ⟨p1, f1, h1, h2⟩ := two h
  obtain ⟨rfl, rfl⟩ := ap7 h1
  obtain ⟨rfl, rfl⟩ := ap8 h2
  exact ⟨rfl, by omega⟩

theorem ops2 (w : World) (k n d k2 n2 d2 : Int) : OpsAt (w.alloc (.cells #[.int .i64 k, .int .i64 n, .int .i64 d, .int .i64 k2, .int .i64 n2, .int .i64 d2] 36)) (.slice (some ⟨w.heap.size, 0, none⟩) 2 2) [(k, n, d), (k2, n2, d2)] := by
  refine .inr ⟨w.heap.size, 0, 2, rfl, by simp, ?_⟩
  intro j hj
  match j, hj with
  | 0, _ => simp [go_sem]
  | 1, _ => simp [go_sem]

theorem all_two (p f : Int) (k n d k2 n2 d2 : Int) (w : World) (B : Nat) (hB : B = w.heap.size) :
    Calls Try.prog 10 #[.agg #[.int .i64 p, .int .i64 f], .slice (some ⟨B, 0, none⟩) 2 2] (w.alloc (.cells #[.int .i64 k, .int .i64 n, .int .i64 d, .int .i64 k2, .int .i64 n2, .int .i64 d2] 36)) fun e w' =>
      e = .returned (ansT (allP p f [(k, n, d), (k2, n2, d2)])) ∧ Below (B + 1) (w.alloc (.cells #[.int .i64 k, .int .i64 n, .int .i64 d, .int .i64 k2, .int .i64 n2, .int .i64 d2] 36)) w' := by
  subst hB
  unfold allP
  by_cases h : 1 ≤ p ∧ p ≤ 2000 ∧ 0 ≤ f ∧ f ≤ 2000
  · rw [if_pos (right_yes h)]
    rcases ops2 w k n d k2 n2 d2 with ⟨_, _, _, h2⟩ | ⟨b, off, cap, h1, h2, h3⟩
    · cases h2
    · have h1' := h1
      simp only [Value.slice.injEq, Option.some.injEq, Addr.mk.injEq, and_true] at h1
      obtain ⟨⟨rfl, rfl⟩, _, rfl⟩ := h1
      have := all_some p f w.heap.size 0 2 [(k, n, d), (k2, n2, d2)] _ h (by simp) h2 h3
      rw [World.size_alloc] at this
      exact this
  · rw [right_no h, if_neg (by simp)]
    have := all_wrong p f (.slice (some ⟨w.heap.size, 0, none⟩) 2 2) (w.alloc (.cells #[.int .i64 k, .int .i64 n, .int .i64 d, .int .i64 k2, .int .i64 n2, .int .i64 d2] 36)) h
    rw [World.size_alloc] at this
    exact this

theorem bcell2 {B : Nat} {W w1 : World} (hb : Below B W w1) : (∀ b o, b < B → w1.cell? ⟨b, o, none⟩ = W.cell? ⟨b, o, none⟩) ∧ (∀ b o, b < B → w1.frozen? ⟨b, o, none⟩ = W.frozen? ⟨b, o, none⟩) :=
  ⟨fun b o h => hb.cell (p := ⟨b, o, none⟩) h, fun b o h => hb.frozen (p := ⟨b, o, none⟩) h⟩

theorem back_000 (p f n : Int) (w : World) (x1 y1 e1 : Int) (ne1 : (e1 != 0) = true) (h1 : allP p f [(3, n, 0), (4, n, 0)] = (x1, y1, e1)) (x2 y2 e2 : Int) (ne2 : (e2 != 0) = true) (h2 : allP p f [(8, 0, 0), (7, 0, 0)] = (x2, y2, e2)) (x3 y3 e3 : Int) (ne3 : (e3 != 0) = true) (h3 : allP p f [(7, 0, 0), (8, 0, 0)] = (x3, y3, e3)) :
    Calls Try.prog 5 #[.agg #[.int .i64 p, .int .i64 f], .int .i64 n] w fun e w' => e = .returned (.bool true) ∧ Below w.heap.size w w' := by
  have A1 := fun w => all_two p f 3 n 0 4 n 0 w
  simp only [h1, ansT, ansC] at A1
  have H1 := Lib.hid A1
  have A2 := fun w => all_two p f 8 0 0 7 0 0 w
  simp only [h2, ansT, ansC] at A2
  have H2 := Lib.hid A2
  have A3 := fun w => all_two p f 7 0 0 8 0 0 w
  simp only [h3, ansT, ansC] at A3
  have H3 := Lib.hid A3
  clear h1 h2 h3 A1 A2 A3
  go_enter Try.func5, Try.ntmps5
  go_wp2_with (first | (go_at_call 10; (with_reducible refine (H1.out _ _ (by first | omega | (simp; done) | (simp; omega))).mono ?_); rintro e w1 ⟨rfl, hb1⟩; obtain ⟨hc1, hf1⟩ := bcell2 hb1; have a10 : w.heap.size < w1.heap.size := sz_of hb1 (by first | omega | (simp; done) | (simp; omega)); have b10 : w.heap.size < w1.heap.size + 1 := (by omega); have c10 : w.heap.size < w1.heap.size + 1 + 1 := (by omega)) | (go_at_call 10; (with_reducible refine (H2.out _ _ (by first | omega | (simp; done) | (simp; omega))).mono ?_); rintro e w2 ⟨rfl, hb2⟩; obtain ⟨hc2, hf2⟩ := bcell2 hb2; have a20 : w.heap.size < w2.heap.size := sz_of hb2 (by first | omega | (simp; done) | (simp; omega)); have b20 : w.heap.size < w2.heap.size + 1 := (by omega); have c20 : w.heap.size < w2.heap.size + 1 + 1 := (by omega); have a21 : w1.heap.size < w2.heap.size := sz_of hb2 (by first | omega | (simp; done) | (simp; omega)); have b21 : w1.heap.size < w2.heap.size + 1 := (by omega); have c21 : w1.heap.size < w2.heap.size + 1 + 1 := (by omega)) | (go_at_call 10; (with_reducible refine (H3.out _ _ (by first | omega | (simp; done) | (simp; omega))).mono ?_); rintro e w3 ⟨rfl, hb3⟩; obtain ⟨hc3, hf3⟩ := bcell2 hb3; have a30 : w.heap.size < w3.heap.size := sz_of hb3 (by first | omega | (simp; done) | (simp; omega)); have b30 : w.heap.size < w3.heap.size + 1 := (by omega); have c30 : w.heap.size < w3.heap.size + 1 + 1 := (by omega); have a31 : w1.heap.size < w3.heap.size := sz_of hb3 (by first | omega | (simp; done) | (simp; omega)); have b31 : w1.heap.size < w3.heap.size + 1 := (by omega); have c31 : w1.heap.size < w3.heap.size + 1 + 1 := (by omega); have a32 : w2.heap.size < w3.heap.size := sz_of hb3 (by first | omega | (simp; done) | (simp; omega)); have b32 : w2.heap.size < w3.heap.size + 1 := (by omega); have c32 : w2.heap.size < w3.heap.size + 1 + 1 := (by omega)) | (go_at_call 6; (with_reducible refine (awake02 _).mono ?_); rintro e w4 ⟨rfl, hb4⟩; obtain ⟨hc4, hf4⟩ := arith.bcell hb4; have a40 : w.heap.size < w4.heap.size := sz_of hb4 (by first | omega | (simp; done) | (simp; omega)); have a41 : w1.heap.size < w4.heap.size := sz_of hb4 (by first | omega | (simp; done) | (simp; omega)); have a42 : w2.heap.size < w4.heap.size := sz_of hb4 (by first | omega | (simp; done) | (simp; omega)); have a43 : w3.heap.size < w4.heap.size := sz_of hb4 (by first | omega | (simp; done) | (simp; omega))))
  go_ret
  exact ⟨rfl, (by repeat (first | exact Below.refl _ _ | (refine Below.alloc ?_ (by first | omega | (simp; done) | (simp; omega)) _) | (refine arith.below_drewN ?_ _) | (refine Below.trans ?_ (hb4.mono (by first | omega | (simp; done) | (simp; omega)))) | (refine Below.trans ?_ (hb3.mono (by first | omega | (simp; done) | (simp; omega)))) | (refine Below.trans ?_ (hb2.mono (by first | omega | (simp; done) | (simp; omega)))) | (refine Below.trans ?_ (hb1.mono (by first | omega | (simp; done) | (simp; omega))))))⟩

theorem back_100 (p f n : Int) (w : World) (h1 : allP p f [(3, n, 0), (4, n, 0)] = (p, f, 0)) (x2 y2 e2 : Int) (ne2 : (e2 != 0) = true) (h2 : allP p f [(8, 0, 0), (7, 0, 0)] = (x2, y2, e2)) (x3 y3 e3 : Int) (ne3 : (e3 != 0) = true) (h3 : allP p f [(7, 0, 0), (8, 0, 0)] = (x3, y3, e3)) :
    Calls Try.prog 5 #[.agg #[.int .i64 p, .int .i64 f], .int .i64 n] w fun e w' => e = .returned (.bool true) ∧ Below w.heap.size w w' := by
  have A1 := fun w => all_two p f 3 n 0 4 n 0 w
  simp only [h1, ansT, ansC] at A1
  have H1 := Lib.hid A1
  have A2 := fun w => all_two p f 8 0 0 7 0 0 w
  simp only [h2, ansT, ansC] at A2
  have H2 := Lib.hid A2
  have A3 := fun w => all_two p f 7 0 0 8 0 0 w
  simp only [h3, ansT, ansC] at A3
  have H3 := Lib.hid A3
  clear h1 h2 h3 A1 A2 A3
  go_enter Try.func5, Try.ntmps5
  go_wp2_with (first | (go_at_call 10; (with_reducible refine (H1.out _ _ (by first | omega | (simp; done) | (simp; omega))).mono ?_); rintro e w1 ⟨rfl, hb1⟩; obtain ⟨hc1, hf1⟩ := bcell2 hb1; have a10 : w.heap.size < w1.heap.size := sz_of hb1 (by first | omega | (simp; done) | (simp; omega)); have b10 : w.heap.size < w1.heap.size + 1 := (by omega); have c10 : w.heap.size < w1.heap.size + 1 + 1 := (by omega)) | (go_at_call 10; (with_reducible refine (H2.out _ _ (by first | omega | (simp; done) | (simp; omega))).mono ?_); rintro e w2 ⟨rfl, hb2⟩; obtain ⟨hc2, hf2⟩ := bcell2 hb2; have a20 : w.heap.size < w2.heap.size := sz_of hb2 (by first | omega | (simp; done) | (simp; omega)); have b20 : w.heap.size < w2.heap.size + 1 := (by omega); have c20 : w.heap.size < w2.heap.size + 1 + 1 := (by omega); have a21 : w1.heap.size < w2.heap.size := sz_of hb2 (by first | omega | (simp; done) | (simp; omega)); have b21 : w1.heap.size < w2.heap.size + 1 := (by omega); have c21 : w1.heap.size < w2.heap.size + 1 + 1 := (by omega)) | (go_at_call 10; (with_reducible refine (H3.out _ _ (by first | omega | (simp; done) | (simp; omega))).mono ?_); rintro e w3 ⟨rfl, hb3⟩; obtain ⟨hc3, hf3⟩ := bcell2 hb3; have a30 : w.heap.size < w3.heap.size := sz_of hb3 (by first | omega | (simp; done) | (simp; omega)); have b30 : w.heap.size < w3.heap.size + 1 := (by omega); have c30 : w.heap.size < w3.heap.size + 1 + 1 := (by omega); have a31 : w1.heap.size < w3.heap.size := sz_of hb3 (by first | omega | (simp; done) | (simp; omega)); have b31 : w1.heap.size < w3.heap.size + 1 := (by omega); have c31 : w1.heap.size < w3.heap.size + 1 + 1 := (by omega); have a32 : w2.heap.size < w3.heap.size := sz_of hb3 (by first | omega | (simp; done) | (simp; omega)); have b32 : w2.heap.size < w3.heap.size + 1 := (by omega); have c32 : w2.heap.size < w3.heap.size + 1 + 1 := (by omega)) | (go_at_call 6; (with_reducible refine (awake02 _).mono ?_); rintro e w4 ⟨rfl, hb4⟩; obtain ⟨hc4, hf4⟩ := arith.bcell hb4; have a40 : w.heap.size < w4.heap.size := sz_of hb4 (by first | omega | (simp; done) | (simp; omega)); have a41 : w1.heap.size < w4.heap.size := sz_of hb4 (by first | omega | (simp; done) | (simp; omega)); have a42 : w2.heap.size < w4.heap.size := sz_of hb4 (by first | omega | (simp; done) | (simp; omega)); have a43 : w3.heap.size < w4.heap.size := sz_of hb4 (by first | omega | (simp; done) | (simp; omega))))
  go_ret
  exact ⟨rfl, (by repeat (first | exact Below.refl _ _ | (refine Below.alloc ?_ (by first | omega | (simp; done) | (simp; omega)) _) | (refine arith.below_drewN ?_ _) | (refine Below.trans ?_ (hb4.mono (by first | omega | (simp; done) | (simp; omega)))) | (refine Below.trans ?_ (hb3.mono (by first | omega | (simp; done) | (simp; omega)))) | (refine Below.trans ?_ (hb2.mono (by first | omega | (simp; done) | (simp; omega)))) | (refine Below.trans ?_ (hb1.mono (by first | omega | (simp; done) | (simp; omega))))))⟩

theorem back_010 (p f n : Int) (w : World) (x1 y1 e1 : Int) (ne1 : (e1 != 0) = true) (h1 : allP p f [(3, n, 0), (4, n, 0)] = (x1, y1, e1)) (h2 : allP p f [(8, 0, 0), (7, 0, 0)] = (p, f, 0)) (x3 y3 e3 : Int) (ne3 : (e3 != 0) = true) (h3 : allP p f [(7, 0, 0), (8, 0, 0)] = (x3, y3, e3)) :
    Calls Try.prog 5 #[.agg #[.int .i64 p, .int .i64 f], .int .i64 n] w fun e w' => e = .returned (.bool true) ∧ Below w.heap.size w w' := by
  have A1 := fun w => all_two p f 3 n 0 4 n 0 w
  simp only [h1, ansT, ansC] at A1
  have H1 := Lib.hid A1
  have A2 := fun w => all_two p f 8 0 0 7 0 0 w
  simp only [h2, ansT, ansC] at A2
  have H2 := Lib.hid A2
  have A3 := fun w => all_two p f 7 0 0 8 0 0 w
  simp only [h3, ansT, ansC] at A3
  have H3 := Lib.hid A3
  clear h1 h2 h3 A1 A2 A3
  go_enter Try.func5, Try.ntmps5
  go_wp2_with (first | (go_at_call 10; (with_reducible refine (H1.out _ _ (by first | omega | (simp; done) | (simp; omega))).mono ?_); rintro e w1 ⟨rfl, hb1⟩; obtain ⟨hc1, hf1⟩ := bcell2 hb1; have a10 : w.heap.size < w1.heap.size := sz_of hb1 (by first | omega | (simp; done) | (simp; omega)); have b10 : w.heap.size < w1.heap.size + 1 := (by omega); have c10 : w.heap.size < w1.heap.size + 1 + 1 := (by omega)) | (go_at_call 10; (with_reducible refine (H2.out _ _ (by first | omega | (simp; done) | (simp; omega))).mono ?_); rintro e w2 ⟨rfl, hb2⟩; obtain ⟨hc2, hf2⟩ := bcell2 hb2; have a20 : w.heap.size < w2.heap.size := sz_of hb2 (by first | omega | (simp; done) | (simp; omega)); have b20 : w.heap.size < w2.heap.size + 1 := (by omega); have c20 : w.heap.size < w2.heap.size + 1 + 1 := (by omega); have a21 : w1.heap.size < w2.heap.size := sz_of hb2 (by first | omega | (simp; done) | (simp; omega)); have b21 : w1.heap.size < w2.heap.size + 1 := (by omega); have c21 : w1.heap.size < w2.heap.size + 1 + 1 := (by omega)) | (go_at_call 10; (with_reducible refine (H3.out _ _ (by first | omega | (simp; done) | (simp; omega))).mono ?_); rintro e w3 ⟨rfl, hb3⟩; obtain ⟨hc3, hf3⟩ := bcell2 hb3; have a30 : w.heap.size < w3.heap.size := sz_of hb3 (by first | omega | (simp; done) | (simp; omega)); have b30 : w.heap.size < w3.heap.size + 1 := (by omega); have c30 : w.heap.size < w3.heap.size + 1 + 1 := (by omega); have a31 : w1.heap.size < w3.heap.size := sz_of hb3 (by first | omega | (simp; done) | (simp; omega)); have b31 : w1.heap.size < w3.heap.size + 1 := (by omega); have c31 : w1.heap.size < w3.heap.size + 1 + 1 := (by omega); have a32 : w2.heap.size < w3.heap.size := sz_of hb3 (by first | omega | (simp; done) | (simp; omega)); have b32 : w2.heap.size < w3.heap.size + 1 := (by omega); have c32 : w2.heap.size < w3.heap.size + 1 + 1 := (by omega)) | (go_at_call 6; (with_reducible refine (awake02 _).mono ?_); rintro e w4 ⟨rfl, hb4⟩; obtain ⟨hc4, hf4⟩ := arith.bcell hb4; have a40 : w.heap.size < w4.heap.size := sz_of hb4 (by first | omega | (simp; done) | (simp; omega)); have a41 : w1.heap.size < w4.heap.size := sz_of hb4 (by first | omega | (simp; done) | (simp; omega)); have a42 : w2.heap.size < w4.heap.size := sz_of hb4 (by first | omega | (simp; done) | (simp; omega)); have a43 : w3.heap.size < w4.heap.size := sz_of hb4 (by first | omega | (simp; done) | (simp; omega))))
  go_ret
  exact ⟨rfl, (by repeat (first | exact Below.refl _ _ | (refine Below.alloc ?_ (by first | omega | (simp; done) | (simp; omega)) _) | (refine arith.below_drewN ?_ _) | (refine Below.trans ?_ (hb4.mono (by first | omega | (simp; done) | (simp; omega)))) | (refine Below.trans ?_ (hb3.mono (by first | omega | (simp; done) | (simp; omega)))) | (refine Below.trans ?_ (hb2.mono (by first | omega | (simp; done) | (simp; omega)))) | (refine Below.trans ?_ (hb1.mono (by first | omega | (simp; done) | (simp; omega))))))⟩

theorem back_110 (p f n : Int) (w : World) (h1 : allP p f [(3, n, 0), (4, n, 0)] = (p, f, 0)) (h2 : allP p f [(8, 0, 0), (7, 0, 0)] = (p, f, 0)) (x3 y3 e3 : Int) (ne3 : (e3 != 0) = true) (h3 : allP p f [(7, 0, 0), (8, 0, 0)] = (x3, y3, e3)) :
    Calls Try.prog 5 #[.agg #[.int .i64 p, .int .i64 f], .int .i64 n] w fun e w' => e = .returned (.bool true) ∧ Below w.heap.size w w' := by
  have A1 := fun w => all_two p f 3 n 0 4 n 0 w
  simp only [h1, ansT, ansC] at A1
  have H1 := Lib.hid A1
  have A2 := fun w => all_two p f 8 0 0 7 0 0 w
  simp only [h2, ansT, ansC] at A2
  have H2 := Lib.hid A2
  have A3 := fun w => all_two p f 7 0 0 8 0 0 w
  simp only [h3, ansT, ansC] at A3
  have H3 := Lib.hid A3
  clear h1 h2 h3 A1 A2 A3
  go_enter Try.func5, Try.ntmps5
  go_wp2_with (first | (go_at_call 10; (with_reducible refine (H1.out _ _ (by first | omega | (simp; done) | (simp; omega))).mono ?_); rintro e w1 ⟨rfl, hb1⟩; obtain ⟨hc1, hf1⟩ := bcell2 hb1; have a10 : w.heap.size < w1.heap.size := sz_of hb1 (by first | omega | (simp; done) | (simp; omega)); have b10 : w.heap.size < w1.heap.size + 1 := (by omega); have c10 : w.heap.size < w1.heap.size + 1 + 1 := (by omega)) | (go_at_call 10; (with_reducible refine (H2.out _ _ (by first | omega | (simp; done) | (simp; omega))).mono ?_); rintro e w2 ⟨rfl, hb2⟩; obtain ⟨hc2, hf2⟩ := bcell2 hb2; have a20 : w.heap.size < w2.heap.size := sz_of hb2 (by first | omega | (simp; done) | (simp; omega)); have b20 : w.heap.size < w2.heap.size + 1 := (by omega); have c20 : w.heap.size < w2.heap.size + 1 + 1 := (by omega); have a21 : w1.heap.size < w2.heap.size := sz_of hb2 (by first | omega | (simp; done) | (simp; omega)); have b21 : w1.heap.size < w2.heap.size + 1 := (by omega); have c21 : w1.heap.size < w2.heap.size + 1 + 1 := (by omega)) | (go_at_call 10; (with_reducible refine (H3.out _ _ (by first | omega | (simp; done) | (simp; omega))).mono ?_); rintro e w3 ⟨rfl, hb3⟩; obtain ⟨hc3, hf3⟩ := bcell2 hb3; have a30 : w.heap.size < w3.heap.size := sz_of hb3 (by first | omega | (simp; done) | (simp; omega)); have b30 : w.heap.size < w3.heap.size + 1 := (by omega); have c30 : w.heap.size < w3.heap.size + 1 + 1 := (by omega); have a31 : w1.heap.size < w3.heap.size := sz_of hb3 (by first | omega | (simp; done) | (simp; omega)); have b31 : w1.heap.size < w3.heap.size + 1 := (by omega); have c31 : w1.heap.size < w3.heap.size + 1 + 1 := (by omega); have a32 : w2.heap.size < w3.heap.size := sz_of hb3 (by first | omega | (simp; done) | (simp; omega)); have b32 : w2.heap.size < w3.heap.size + 1 := (by omega); have c32 : w2.heap.size < w3.heap.size + 1 + 1 := (by omega)) | (go_at_call 6; (with_reducible refine (awake02 _).mono ?_); rintro e w4 ⟨rfl, hb4⟩; obtain ⟨hc4, hf4⟩ := arith.bcell hb4; have a40 : w.heap.size < w4.heap.size := sz_of hb4 (by first | omega | (simp; done) | (simp; omega)); have a41 : w1.heap.size < w4.heap.size := sz_of hb4 (by first | omega | (simp; done) | (simp; omega)); have a42 : w2.heap.size < w4.heap.size := sz_of hb4 (by first | omega | (simp; done) | (simp; omega)); have a43 : w3.heap.size < w4.heap.size := sz_of hb4 (by first | omega | (simp; done) | (simp; omega))))
  go_ret
  exact ⟨rfl, (by repeat (first | exact Below.refl _ _ | (refine Below.alloc ?_ (by first | omega | (simp; done) | (simp; omega)) _) | (refine arith.below_drewN ?_ _) | (refine Below.trans ?_ (hb4.mono (by first | omega | (simp; done) | (simp; omega)))) | (refine Below.trans ?_ (hb3.mono (by first | omega | (simp; done) | (simp; omega)))) | (refine Below.trans ?_ (hb2.mono (by first | omega | (simp; done) | (simp; omega)))) | (refine Below.trans ?_ (hb1.mono (by first | omega | (simp; done) | (simp; omega))))))⟩

theorem back_001 (p f n : Int) (w : World) (x1 y1 e1 : Int) (ne1 : (e1 != 0) = true) (h1 : allP p f [(3, n, 0), (4, n, 0)] = (x1, y1, e1)) (x2 y2 e2 : Int) (ne2 : (e2 != 0) = true) (h2 : allP p f [(8, 0, 0), (7, 0, 0)] = (x2, y2, e2)) (h3 : allP p f [(7, 0, 0), (8, 0, 0)] = (p, f, 0)) :
    Calls Try.prog 5 #[.agg #[.int .i64 p, .int .i64 f], .int .i64 n] w fun e w' => e = .returned (.bool true) ∧ Below w.heap.size w w' := by
  have A1 := fun w => all_two p f 3 n 0 4 n 0 w
  simp only [h1, ansT, ansC] at A1
  have H1 := Lib.hid A1
  have A2 := fun w => all_two p f 8 0 0 7 0 0 w
  simp only [h2, ansT, ansC] at A2
  have H2 := Lib.hid A2
  have A3 := fun w => all_two p f 7 0 0 8 0 0 w
  simp only [h3, ansT, ansC] at A3
  have H3 := Lib.hid A3
  clear h1 h2 h3 A1 A2 A3
  go_enter Try.func5, Try.ntmps5
  go_wp2_with (first | (go_at_call 10; (with_reducible refine (H1.out _ _ (by first | omega | (simp; done) | (simp; omega))).mono ?_); rintro e w1 ⟨rfl, hb1⟩; obtain ⟨hc1, hf1⟩ := bcell2 hb1; have a10 : w.heap.size < w1.heap.size := sz_of hb1 (by first | omega | (simp; done) | (simp; omega)); have b10 : w.heap.size < w1.heap.size + 1 := (by omega); have c10 : w.heap.size < w1.heap.size + 1 + 1 := (by omega)) | (go_at_call 10; (with_reducible refine (H2.out _ _ (by first | omega | (simp; done) | (simp; omega))).mono ?_); rintro e w2 ⟨rfl, hb2⟩; obtain ⟨hc2, hf2⟩ := bcell2 hb2; have a20 : w.heap.size < w2.heap.size := sz_of hb2 (by first | omega | (simp; done) | (simp; omega)); have b20 : w.heap.size < w2.heap.size + 1 := (by omega); have c20 : w.heap.size < w2.heap.size + 1 + 1 := (by omega); have a21 : w1.heap.size < w2.heap.size := sz_of hb2 (by first | omega | (simp; done) | (simp; omega)); have b21 : w1.heap.size < w2.heap.size + 1 := (by omega); have c21 : w1.heap.size < w2.heap.size + 1 + 1 := (by omega)) | (go_at_call 10; (with_reducible refine (H3.out _ _ (by first | omega | (simp; done) | (simp; omega))).mono ?_); rintro e w3 ⟨rfl, hb3⟩; obtain ⟨hc3, hf3⟩ := bcell2 hb3; have a30 : w.heap.size < w3.heap.size := sz_of hb3 (by first | omega | (simp; done) | (simp; omega)); have b30 : w.heap.size < w3.heap.size + 1 := (by omega); have c30 : w.heap.size < w3.heap.size + 1 + 1 := (by omega); have a31 : w1.heap.size < w3.heap.size := sz_of hb3 (by first | omega | (simp; done) | (simp; omega)); have b31 : w1.heap.size < w3.heap.size + 1 := (by omega); have c31 : w1.heap.size < w3.heap.size + 1 + 1 := (by omega); have a32 : w2.heap.size < w3.heap.size := sz_of hb3 (by first | omega | (simp; done) | (simp; omega)); have b32 : w2.heap.size < w3.heap.size + 1 := (by omega); have c32 : w2.heap.size < w3.heap.size + 1 + 1 := (by omega)) | (go_at_call 6; (with_reducible refine (awake02 _).mono ?_); rintro e w4 ⟨rfl, hb4⟩; obtain ⟨hc4, hf4⟩ := arith.bcell hb4; have a40 : w.heap.size < w4.heap.size := sz_of hb4 (by first | omega | (simp; done) | (simp; omega)); have a41 : w1.heap.size < w4.heap.size := sz_of hb4 (by first | omega | (simp; done) | (simp; omega)); have a42 : w2.heap.size < w4.heap.size := sz_of hb4 (by first | omega | (simp; done) | (simp; omega)); have a43 : w3.heap.size < w4.heap.size := sz_of hb4 (by first | omega | (simp; done) | (simp; omega))))
  go_ret
  exact ⟨rfl, (by repeat (first | exact Below.refl _ _ | (refine Below.alloc ?_ (by first | omega | (simp; done) | (simp; omega)) _) | (refine arith.below_drewN ?_ _) | (refine Below.trans ?_ (hb4.mono (by first | omega | (simp; done) | (simp; omega)))) | (refine Below.trans ?_ (hb3.mono (by first | omega | (simp; done) | (simp; omega)))) | (refine Below.trans ?_ (hb2.mono (by first | omega | (simp; done) | (simp; omega)))) | (refine Below.trans ?_ (hb1.mono (by first | omega | (simp; done) | (simp; omega))))))⟩

theorem back_101 (p f n : Int) (w : World) (h1 : allP p f [(3, n, 0), (4, n, 0)] = (p, f, 0)) (x2 y2 e2 : Int) (ne2 : (e2 != 0) = true) (h2 : allP p f [(8, 0, 0), (7, 0, 0)] = (x2, y2, e2)) (h3 : allP p f [(7, 0, 0), (8, 0, 0)] = (p, f, 0)) :
    Calls Try.prog 5 #[.agg #[.int .i64 p, .int .i64 f], .int .i64 n] w fun e w' => e = .returned (.bool true) ∧ Below w.heap.size w w' := by
  have A1 := fun w => all_two p f 3 n 0 4 n 0 w
  simp only [h1, ansT, ansC] at A1
  have H1 := Lib.hid A1
  have A2 := fun w => all_two p f 8 0 0 7 0 0 w
  simp only [h2, ansT, ansC] at A2
  have H2 := Lib.hid A2
  have A3 := fun w => all_two p f 7 0 0 8 0 0 w
  simp only [h3, ansT, ansC] at A3
  have H3 := Lib.hid A3
  clear h1 h2 h3 A1 A2 A3
  go_enter Try.func5, Try.ntmps5
  go_wp2_with (first | (go_at_call 10; (with_reducible refine (H1.out _ _ (by first | omega | (simp; done) | (simp; omega))).mono ?_); rintro e w1 ⟨rfl, hb1⟩; obtain ⟨hc1, hf1⟩ := bcell2 hb1; have a10 : w.heap.size < w1.heap.size := sz_of hb1 (by first | omega | (simp; done) | (simp; omega)); have b10 : w.heap.size < w1.heap.size + 1 := (by omega); have c10 : w.heap.size < w1.heap.size + 1 + 1 := (by omega)) | (go_at_call 10; (with_reducible refine (H2.out _ _ (by first | omega | (simp; done) | (simp; omega))).mono ?_); rintro e w2 ⟨rfl, hb2⟩; obtain ⟨hc2, hf2⟩ := bcell2 hb2; have a20 : w.heap.size < w2.heap.size := sz_of hb2 (by first | omega | (simp; done) | (simp; omega)); have b20 : w.heap.size < w2.heap.size + 1 := (by omega); have c20 : w.heap.size < w2.heap.size + 1 + 1 := (by omega); have a21 : w1.heap.size < w2.heap.size := sz_of hb2 (by first | omega | (simp; done) | (simp; omega)); have b21 : w1.heap.size < w2.heap.size + 1 := (by omega); have c21 : w1.heap.size < w2.heap.size + 1 + 1 := (by omega)) | (go_at_call 10; (with_reducible refine (H3.out _ _ (by first | omega | (simp; done) | (simp; omega))).mono ?_); rintro e w3 ⟨rfl, hb3⟩; obtain ⟨hc3, hf3⟩ := bcell2 hb3; have a30 : w.heap.size < w3.heap.size := sz_of hb3 (by first | omega | (simp; done) | (simp; omega)); have b30 : w.heap.size < w3.heap.size + 1 := (by omega); have c30 : w.heap.size < w3.heap.size + 1 + 1 := (by omega); have a31 : w1.heap.size < w3.heap.size := sz_of hb3 (by first | omega | (simp; done) | (simp; omega)); have b31 : w1.heap.size < w3.heap.size + 1 := (by omega); have c31 : w1.heap.size < w3.heap.size + 1 + 1 := (by omega); have a32 : w2.heap.size < w3.heap.size := sz_of hb3 (by first | omega | (simp; done) | (simp; omega)); have b32 : w2.heap.size < w3.heap.size + 1 := (by omega); have c32 : w2.heap.size < w3.heap.size + 1 + 1 := (by omega)) | (go_at_call 6; (with_reducible refine (awake02 _).mono ?_); rintro e w4 ⟨rfl, hb4⟩; obtain ⟨hc4, hf4⟩ := arith.bcell hb4; have a40 : w.heap.size < w4.heap.size := sz_of hb4 (by first | omega | (simp; done) | (simp; omega)); have a41 : w1.heap.size < w4.heap.size := sz_of hb4 (by first | omega | (simp; done) | (simp; omega)); have a42 : w2.heap.size < w4.heap.size := sz_of hb4 (by first | omega | (simp; done) | (simp; omega)); have a43 : w3.heap.size < w4.heap.size := sz_of hb4 (by first | omega | (simp; done) | (simp; omega))))
  go_ret
  exact ⟨rfl, (by repeat (first | exact Below.refl _ _ | (refine Below.alloc ?_ (by first | omega | (simp; done) | (simp; omega)) _) | (refine arith.below_drewN ?_ _) | (refine Below.trans ?_ (hb4.mono (by first | omega | (simp; done) | (simp; omega)))) | (refine Below.trans ?_ (hb3.mono (by first | omega | (simp; done) | (simp; omega)))) | (refine Below.trans ?_ (hb2.mono (by first | omega | (simp; done) | (simp; omega)))) | (refine Below.trans ?_ (hb1.mono (by first | omega | (simp; done) | (simp; omega))))))⟩

theorem back_011 (p f n : Int) (w : World) (x1 y1 e1 : Int) (ne1 : (e1 != 0) = true) (h1 : allP p f [(3, n, 0), (4, n, 0)] = (x1, y1, e1)) (h2 : allP p f [(8, 0, 0), (7, 0, 0)] = (p, f, 0)) (h3 : allP p f [(7, 0, 0), (8, 0, 0)] = (p, f, 0)) :
    Calls Try.prog 5 #[.agg #[.int .i64 p, .int .i64 f], .int .i64 n] w fun e w' => e = .returned (.bool true) ∧ Below w.heap.size w w' := by
  have A1 := fun w => all_two p f 3 n 0 4 n 0 w
  simp only [h1, ansT, ansC] at A1
  have H1 := Lib.hid A1
  have A2 := fun w => all_two p f 8 0 0 7 0 0 w
  simp only [h2, ansT, ansC] at A2
  have H2 := Lib.hid A2
  have A3 := fun w => all_two p f 7 0 0 8 0 0 w
  simp only [h3, ansT, ansC] at A3
  have H3 := Lib.hid A3
  clear h1 h2 h3 A1 A2 A3
  go_enter Try.func5, Try.ntmps5
  go_wp2_with (first | (go_at_call 10; (with_reducible refine (H1.out _ _ (by first | omega | (simp; done) | (simp; omega))).mono ?_); rintro e w1 ⟨rfl, hb1⟩; obtain ⟨hc1, hf1⟩ := bcell2 hb1; have a10 : w.heap.size < w1.heap.size := sz_of hb1 (by first | omega | (simp; done) | (simp; omega)); have b10 : w.heap.size < w1.heap.size + 1 := (by omega); have c10 : w.heap.size < w1.heap.size + 1 + 1 := (by omega)) | (go_at_call 10; (with_reducible refine (H2.out _ _ (by first | omega | (simp; done) | (simp; omega))).mono ?_); rintro e w2 ⟨rfl, hb2⟩; obtain ⟨hc2, hf2⟩ := bcell2 hb2; have a20 : w.heap.size < w2.heap.size := sz_of hb2 (by first | omega | (simp; done) | (simp; omega)); have b20 : w.heap.size < w2.heap.size + 1 := (by omega); have c20 : w.heap.size < w2.heap.size + 1 + 1 := (by omega); have a21 : w1.heap.size < w2.heap.size := sz_of hb2 (by first | omega | (simp; done) | (simp; omega)); have b21 : w1.heap.size < w2.heap.size + 1 := (by omega); have c21 : w1.heap.size < w2.heap.size + 1 + 1 := (by omega)) | (go_at_call 10; (with_reducible refine (H3.out _ _ (by first | omega | (simp; done) | (simp; omega))).mono ?_); rintro e w3 ⟨rfl, hb3⟩; obtain ⟨hc3, hf3⟩ := bcell2 hb3; have a30 : w.heap.size < w3.heap.size := sz_of hb3 (by first | omega | (simp; done) | (simp; omega)); have b30 : w.heap.size < w3.heap.size + 1 := (by omega); have c30 : w.heap.size < w3.heap.size + 1 + 1 := (by omega); have a31 : w1.heap.size < w3.heap.size := sz_of hb3 (by first | omega | (simp; done) | (simp; omega)); have b31 : w1.heap.size < w3.heap.size + 1 := (by omega); have c31 : w1.heap.size < w3.heap.size + 1 + 1 := (by omega); have a32 : w2.heap.size < w3.heap.size := sz_of hb3 (by first | omega | (simp; done) | (simp; omega)); have b32 : w2.heap.size < w3.heap.size + 1 := (by omega); have c32 : w2.heap.size < w3.heap.size + 1 + 1 := (by omega)) | (go_at_call 6; (with_reducible refine (awake02 _).mono ?_); rintro e w4 ⟨rfl, hb4⟩; obtain ⟨hc4, hf4⟩ := arith.bcell hb4; have a40 : w.heap.size < w4.heap.size := sz_of hb4 (by first | omega | (simp; done) | (simp; omega)); have a41 : w1.heap.size < w4.heap.size := sz_of hb4 (by first | omega | (simp; done) | (simp; omega)); have a42 : w2.heap.size < w4.heap.size := sz_of hb4 (by first | omega | (simp; done) | (simp; omega)); have a43 : w3.heap.size < w4.heap.size := sz_of hb4 (by first | omega | (simp; done) | (simp; omega))))
  go_ret
  exact ⟨rfl, (by repeat (first | exact Below.refl _ _ | (refine Below.alloc ?_ (by first | omega | (simp; done) | (simp; omega)) _) | (refine arith.below_drewN ?_ _) | (refine Below.trans ?_ (hb4.mono (by first | omega | (simp; done) | (simp; omega)))) | (refine Below.trans ?_ (hb3.mono (by first | omega | (simp; done) | (simp; omega)))) | (refine Below.trans ?_ (hb2.mono (by first | omega | (simp; done) | (simp; omega)))) | (refine Below.trans ?_ (hb1.mono (by first | omega | (simp; done) | (simp; omega))))))⟩

theorem back_111 (p f n : Int) (w : World) (h1 : allP p f [(3, n, 0), (4, n, 0)] = (p, f, 0)) (h2 : allP p f [(8, 0, 0), (7, 0, 0)] = (p, f, 0)) (h3 : allP p f [(7, 0, 0), (8, 0, 0)] = (p, f, 0)) :
    Calls Try.prog 5 #[.agg #[.int .i64 p, .int .i64 f], .int .i64 n] w fun e w' => e = .returned (.bool true) ∧ Below w.heap.size w w' := by
  have A1 := fun w => all_two p f 3 n 0 4 n 0 w
  simp only [h1, ansT, ansC] at A1
  have H1 := Lib.hid A1
  have A2 := fun w => all_two p f 8 0 0 7 0 0 w
  simp only [h2, ansT, ansC] at A2
  have H2 := Lib.hid A2
  have A3 := fun w => all_two p f 7 0 0 8 0 0 w
  simp only [h3, ansT, ansC] at A3
  have H3 := Lib.hid A3
  clear h1 h2 h3 A1 A2 A3
  go_enter Try.func5, Try.ntmps5
  go_wp2_with (first | (go_at_call 10; (with_reducible refine (H1.out _ _ (by first | omega | (simp; done) | (simp; omega))).mono ?_); rintro e w1 ⟨rfl, hb1⟩; obtain ⟨hc1, hf1⟩ := bcell2 hb1; have a10 : w.heap.size < w1.heap.size := sz_of hb1 (by first | omega | (simp; done) | (simp; omega)); have b10 : w.heap.size < w1.heap.size + 1 := (by omega); have c10 : w.heap.size < w1.heap.size + 1 + 1 := (by omega)) | (go_at_call 10; (with_reducible refine (H2.out _ _ (by first | omega | (simp; done) | (simp; omega))).mono ?_); rintro e w2 ⟨rfl, hb2⟩; obtain ⟨hc2, hf2⟩ := bcell2 hb2; have a20 : w.heap.size < w2.heap.size := sz_of hb2 (by first | omega | (simp; done) | (simp; omega)); have b20 : w.heap.size < w2.heap.size + 1 := (by omega); have c20 : w.heap.size < w2.heap.size + 1 + 1 := (by omega); have a21 : w1.heap.size < w2.heap.size := sz_of hb2 (by first | omega | (simp; done) | (simp; omega)); have b21 : w1.heap.size < w2.heap.size + 1 := (by omega); have c21 : w1.heap.size < w2.heap.size + 1 + 1 := (by omega)) | (go_at_call 10; (with_reducible refine (H3.out _ _ (by first | omega | (simp; done) | (simp; omega))).mono ?_); rintro e w3 ⟨rfl, hb3⟩; obtain ⟨hc3, hf3⟩ := bcell2 hb3; have a30 : w.heap.size < w3.heap.size := sz_of hb3 (by first | omega | (simp; done) | (simp; omega)); have b30 : w.heap.size < w3.heap.size + 1 := (by omega); have c30 : w.heap.size < w3.heap.size + 1 + 1 := (by omega); have a31 : w1.heap.size < w3.heap.size := sz_of hb3 (by first | omega | (simp; done) | (simp; omega)); have b31 : w1.heap.size < w3.heap.size + 1 := (by omega); have c31 : w1.heap.size < w3.heap.size + 1 + 1 := (by omega); have a32 : w2.heap.size < w3.heap.size := sz_of hb3 (by first | omega | (simp; done) | (simp; omega)); have b32 : w2.heap.size < w3.heap.size + 1 := (by omega); have c32 : w2.heap.size < w3.heap.size + 1 + 1 := (by omega)) | (go_at_call 6; (with_reducible refine (awake02 _).mono ?_); rintro e w4 ⟨rfl, hb4⟩; obtain ⟨hc4, hf4⟩ := arith.bcell hb4; have a40 : w.heap.size < w4.heap.size := sz_of hb4 (by first | omega | (simp; done) | (simp; omega)); have a41 : w1.heap.size < w4.heap.size := sz_of hb4 (by first | omega | (simp; done) | (simp; omega)); have a42 : w2.heap.size < w4.heap.size := sz_of hb4 (by first | omega | (simp; done) | (simp; omega)); have a43 : w3.heap.size < w4.heap.size := sz_of hb4 (by first | omega | (simp; done) | (simp; omega))))
  go_ret
  exact ⟨rfl, (by repeat (first | exact Below.refl _ _ | (refine Below.alloc ?_ (by first | omega | (simp; done) | (simp; omega)) _) | (refine arith.below_drewN ?_ _) | (refine Below.trans ?_ (hb4.mono (by first | omega | (simp; done) | (simp; omega)))) | (refine Below.trans ?_ (hb3.mono (by first | omega | (simp; done) | (simp; omega)))) | (refine Below.trans ?_ (hb2.mono (by first | omega | (simp; done) | (simp; omega)))) | (refine Below.trans ?_ (hb1.mono (by first | omega | (simp; done) | (simp; omega))))))⟩

theorem walk (p f n : Int) (wp : (Lit.int .i64 p).wf = true) (wf : (Lit.int .i64 f).wf = true) (wn : (Lit.int .i64 n).wf = true) (w : World) :
    Calls Try.prog 5 #[.agg #[.int .i64 p, .int .i64 f], .int .i64 n] w fun e w' => e = .returned (.bool true) ∧ Below w.heap.size w w' := by
  rcases h1 : allP p f [(3, n, 0), (4, n, 0)] with ⟨x1, y1, e1⟩
  rcases h2 : allP p f [(8, 0, 0), (7, 0, 0)] with ⟨x2, y2, e2⟩
  rcases h3 : allP p f [(7, 0, 0), (8, 0, 0)] with ⟨x3, y3, e3⟩
  by_cases z1 : e1 = 0
  · subst z1
    obtain ⟨u1, v1⟩ := over_under h1
    rw [u1, v1] at h1
    by_cases z2 : e2 = 0
    · subst z2
      obtain ⟨u2, v2⟩ := cons_tail h2
      rw [u2, v2] at h2
      by_cases z3 : e3 = 0
      · subst z3
        obtain ⟨u3, v3⟩ := tail_cons h3
        rw [u3, v3] at h3
        exact back_111 p f n w h1 h2 h3
      · exact back_110 p f n w h1 h2 x3 y3 e3 (by simpa using z3) h3
    · by_cases z3 : e3 = 0
      · subst z3
        obtain ⟨u3, v3⟩ := tail_cons h3
        rw [u3, v3] at h3
        exact back_101 p f n w h1 x2 y2 e2 (by simpa using z2) h2 h3
      · exact back_100 p f n w h1 x2 y2 e2 (by simpa using z2) h2 x3 y3 e3 (by simpa using z3) h3
  · by_cases z2 : e2 = 0
    · subst z2
      obtain ⟨u2, v2⟩ := cons_tail h2
      rw [u2, v2] at h2
      by_cases z3 : e3 = 0
      · subst z3
        obtain ⟨u3, v3⟩ := tail_cons h3
        rw [u3, v3] at h3
        exact back_011 p f n w x1 y1 e1 (by simpa using z1) h1 h2 h3
      · exact back_010 p f n w x1 y1 e1 (by simpa using z1) h1 h2 x3 y3 e3 (by simpa using z3) h3
    · by_cases z3 : e3 = 0
      · subst z3
        obtain ⟨u3, v3⟩ := tail_cons h3
        rw [u3, v3] at h3
        exact back_001 p f n w x1 y1 e1 (by simpa using z1) h1 x2 y2 e2 (by simpa using z2) h2 h3
      · exact back_000 p f n w x1 y1 e1 (by simpa using z1) h1 x2 y2 e2 (by simpa using z2) h2 x3 y3 e3 (by simpa using z3) h3

set_option maxRecDepth 100000 in
theorem lifted (os : Os) (started : os.Started) (H : Type) (enc : TypeId × Value → H) :
    ReturnsInHanded {} Try.checked os 5 .any (Rows.clockBackSpec.pre6 enc Try.prog Try.f5 Rows.clockBackRow.domain false) (Rows.clockBackSpec.post enc Try.prog Try.f5 false true false false) := by
  refine returnsInHanded_of_change (C := Try.checked) own started (by kernel_rfl) Try.func5
    (ChangeSpec.witness6 (enc := enc) (C := Try.checked) false ⟨#[], #[.agg #[.int .i64 0, .int .i64 0], .int .i64 0], []⟩ 8 (by kernel_rfl) (by kernel_rfl) (by kernel_rfl) (by kernel_rfl)) ?_
  intro W base args ds gs before hval0 hW hcnd _
  have hval : ∀ (j : Nat) t v, Try.f5.params[j]? = some t → args[j]? = some v → Value.okWide Try.prog W .any base t v := hval0
  have hW' := hW
  obtain ⟨p, q, hA0, hV, rfl, hfz, hnd⟩ := hW
  have hA : DataW.TrodAll enc Try.prog W 0 (fun _ => true) true Try.f5.params.toList args.toList ds p := hA0
  rw [Try.params5] at hA hval
  obtain ⟨v0, vs0, d0, ds0, q0, qs0, hargs, rfl, rfl, h0, r0⟩ := trodAll_cons hA
  obtain ⟨v1, vs1, d1, ds1, q1, qs1, rfl, rfl, rfl, h1, r1⟩ := trodAll_cons r0
  obtain ⟨rfl, rfl, rfl⟩ := trodAll_nil r1
  obtain rfl : args = #[v0, v1] := by cases args; simp_all
  obtain ⟨rfl, rfl⟩ := trodVars_none hV
  have k0 := h0
  have lt0 : ∀ x ∈ q0, x.block < W.heap.size := by obtain ⟨m, hm⟩ := k0; exact DataW.trod_lt m _ _ _ hm
  have k1 := h1
  have lt1 : ∀ x ∈ q1, x.block < W.heap.size := by obtain ⟨m, hm⟩ := k1; exact DataW.trod_lt m _ _ _ hm
  obtain ⟨c0p, c0f, y0p, y0f, m0, rfl, _, _, t0p, t0f⟩ := open_agg2 Try.underlying29 (by kernel_rfl) (by kernel_rfl) (hval 0 29 v0 rfl rfl) h0
  obtain ⟨p0, e0p, _, w0p⟩ := DataW.trod_int Try.underlying2 t0p
  obtain ⟨f0, e0f, _, w0f⟩ := DataW.trod_int Try.underlying2 t0f
  simp only [List.cons.injEq, and_true] at e0p e0f
  subst e0p e0f
  obtain ⟨a1, rfl, rfl, rfl, w1⟩ := open_int Try.underlying2 (hval 1 2 v1 rfl rfl) h1
  clear hA0 hval0
  refine (walk p0 f0 a1 w0p w0f w1 W).mono fun e W' ⟨he, bel⟩ => ?_
  subst he
  exact ⟨_, rfl, _, _, _, [], _, [], hW', trodAll_mk1 (shut_bool Try.underlying4 _), (trodAll_cons_mk (Below.trod laidOut (by kernel_rfl) (of_decide_eq_true (by kernel_rfl)) k0 bel lt0) (trodAll_cons_mk (Below.trod laidOut (by kernel_rfl) (of_decide_eq_true (by kernel_rfl)) k1 bel lt1) trodAll_mk0)), rfl, bel.frame _, fun h => by cases h⟩

theorem over : Rows.clockBackRow.holds Try.pinned (OpenSpec.ofChange Rows.clockBackSpec) :=
  OpenClaim.holds_of_wide 5 Try.f5 rfl rfl rfl rfl rfl rfl rfl ⟨rfl, rfl, rfl, rfl, rfl⟩ rfl rfl rfl rfl rfl (by kernel_rfl) Try.func5 (by kernel_rfl)
    (of_decide_eq_true (by kernel_rfl)) (by unfold Func.isWrapper; first | (rw [if_pos (by decide +kernel)]; kernel_rfl) | (rw [if_neg (by decide +kernel)]; exact ⟨rfl, rfl⟩))
    (fun os started H enc _ => lifted os started H enc)

theorem proved : Rows.ClockBackSaid := over
end Go.Proofs.Ytipafnggeckojaa.clockBack
