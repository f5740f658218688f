/-
  What the statements of index ask first, and the reference's Right.
-/
import Derived.Test.YtdlgpfbfhaifgaaIdx3
namespace Go.Proofs.Ytdlgpfbfhaifgaa.index
open Go.RowKit Go.Shelf clock syn lite
set_option linter.unusedVariables false
set_option linter.unusedSimpArgs false

theorem opA_one (w : World) (k n d : Int) : OpA (w.alloc (.cells #[.int .i64 k, .int .i64 n, .int .i64 d] 43)) (some ⟨w.heap.size, 0, none⟩) [(k, n, d)] := by
  intro j hj
  have : j = 0 := by simpa using hj
  subst this
  exact ⟨w.heap.size, 0, rfl, by simp, by simp [go_sem], by simp [go_sem], by simp [go_sem]⟩

theorem awake_back : backP [(3, 2, 0)] 5 = (2, 0, 1) := by decide +kernel

theorem awake07 (w : World) :
    Calls Try.prog 7 #[] w fun e w' => e = .returned (.bool true) ∧ Below w.heap.size w w' := by
  have L := back_any [(3, 2, 0)] (some ⟨w.heap.size, 0, none⟩) 1 5 _ (by simp) (opA_one w 3 2 0)
  rw [awake_back] at L
  have HL := Lib.hid L
  simp only [T3, List.length_cons, List.length_nil, Nat.zero_add] at HL
  clear L
  go_enter Try.func7, Try.ntmps7
  go_wp2_with (go_at_call 9; (with_reducible refine HL.out.mono ?_); rintro e w1 ⟨rfl, hb1⟩)
  go_ret
  exact ⟨rfl, (by repeat (first | (with_reducible exact Below.refl _ _) | ((with_reducible refine below_setAt ?_ ?_ _); (rotate_left; focus (first | omega | (simp; done) | (simp; omega)))) | ((with_reducible refine Below.alloc ?_ ?_ _); (rotate_left; focus (first | omega | (simp; done) | (simp; omega)))) | (with_reducible refine below_drewN ?_ _) | (with_reducible refine Below.drew ?_) | ((with_reducible refine Below.trans ?_ (Below.mono hb1 ?_)); (rotate_left; focus (first | omega | (simp; done) | (simp; omega))))))⟩

/-- An operator that may be. -/
def rightO (o : Op3) : Bool := decide (3 ≤ o.1 ∧ o.1 ≤ 8 ∧ (o.1 < 5 → 1 ≤ o.2.1 ∧ o.2.1 ≤ 100) ∧ (o.1 = 5 → 0 ≤ o.2.1 ∧ o.2.1 ≤ 100 ∧ 1 ≤ o.2.2 ∧ o.2.2 ≤ 100))
def rightL (l : List Op3) : Bool := l.all rightO && decide (l.length ≤ 20)

theorem all_take {P : Op3 → Bool} {l : List Op3} {k : Nat} (hk : k < l.length) (h : (l.take k).all P = true) (h2 : P (l.getD k (0, 0, 0)) = true) : (l.take (k + 1)).all P = true := by
  rw [List.take_succ_eq_append_getElem hk, List.all_append, h, ← plain.getD_lt (0, 0, 0) hk]; simp only [List.all_cons, List.all_nil, h2, Bool.and_true]
theorem all_miss {P : Op3 → Bool} {l : List Op3} {k : Nat} (hk : k < l.length) (h2 : P (l.getD k (0, 0, 0)) = false) : l.all P = false := by
  cases h : l.all P with
  | false => rfl
  | true => rw [List.all_eq_true] at h; rw [plain.getD_lt _ hk] at h2; rw [h _ (List.getElem_mem hk)] at h2; cases h2
theorem rightL_no {l : List Op3} {k : Nat} (hk : k < l.length) (h2 : rightO (l.getD k (0, 0, 0)) = false) : rightL l = false := by
  unfold rightL; rw [all_miss hk h2]; rfl
def RtRel (w : World) (l : List Op3) (v : Value) (wr : World) : Prop := ∃ k : Nat, k ≤ l.length ∧ v = .int .i64 k ∧ Below w.heap.size w wr ∧ (l.take k).all rightO = true

set_option maxRecDepth 100000 in
set_option maxHeartbeats 4000000 in
theorem right07_any (l : List Op3) (a : Option Addr) (cap : Nat) (w : World) (hl : l.length ≤ 9223372036854775807) (hA : OpA w a l) :
    Calls Try.prog 8 #[.slice a l.length cap] w fun e w' => e = .returned (.bool (rightL l)) ∧ Below w.heap.size w w' := by
  have HA := Lib.hid hA
  clear hA
  go_enter Try.func8, Try.ntmps8
  go_wp2
  go_loopw [3] (fun v wr => Hid (RtRel w l v wr)) (fun i _ => l.length - (intOf i).toNat)
  case atStart => exact ⟨0, by omega, rfl, Below.refl _ _, by simp⟩
  case round =>
    obtain ⟨k, hk, rfl, hB, hal⟩ := hrel.out
    clear hrel
    have HB := Lib.hid hB
    have HAL := Lib.hid hal
    have hsz := hB.size
    clear hal
    by_cases hlt : k < l.length
    · obtain ⟨b, off, rfl, hb, c0, c1, c2⟩ := (HA.out.below hB (Nat.le_refl _)) k hlt
      clear hB
      obtain ⟨x, hx⟩ : ∃ x, l.getD k (0, 0, 0) = x := ⟨_, rfl⟩
      have HX := Lib.hid hx
      rw [hx] at c0 c1 c2
      clear hx
      obtain ⟨xk, xn, xd⟩ := x
      simp only at c0 c1 c2
      by_cases h0 : xk < 3
      · skip
        go_wp2
        go_ret
        exact ⟨bool_eq (by rw [rightL_no hlt (by rw [HX.out]; unfold rightO; exact decide_eq_false (by first | (simp only; omega) | (simp; omega)))]), HB.out.trans (by repeat (first | (with_reducible exact Below.refl _ _) | ((with_reducible refine below_setAt ?_ ?_ _); (rotate_left; focus (first | omega | (simp; done) | (simp; omega)))) | ((with_reducible refine Below.alloc ?_ ?_ _); (rotate_left; focus (first | omega | (simp; done) | (simp; omega)))) | (with_reducible refine below_drewN ?_ _) | (with_reducible refine Below.drew ?_)))⟩
      · skip
        have g0 : decide (xk < 3) = false := decide_eq_false h0
        by_cases h1 : 8 < xk
        · skip
          go_wp2
          go_ret
          exact ⟨bool_eq (by rw [rightL_no hlt (by rw [HX.out]; unfold rightO; exact decide_eq_false (by first | (simp only; omega) | (simp; omega)))]), HB.out.trans (by repeat (first | (with_reducible exact Below.refl _ _) | ((with_reducible refine below_setAt ?_ ?_ _); (rotate_left; focus (first | omega | (simp; done) | (simp; omega)))) | ((with_reducible refine Below.alloc ?_ ?_ _); (rotate_left; focus (first | omega | (simp; done) | (simp; omega)))) | (with_reducible refine below_drewN ?_ _) | (with_reducible refine Below.drew ?_)))⟩
        · skip
          have g1 : decide (8 < xk) = false := decide_eq_false h1
          have hkk : xk = 3 ∨ xk = 4 ∨ xk = 5 ∨ xk = 6 ∨ xk = 7 ∨ xk = 8 := by omega
          rcases hkk with rfl | rfl | rfl | rfl | rfl | rfl
          · skip
            by_cases h2 : xn < 1
            · skip
              go_wp2
              go_ret
              exact ⟨bool_eq (by rw [rightL_no hlt (by rw [HX.out]; unfold rightO; exact decide_eq_false (by first | (simp only; omega) | (simp; omega)))]), HB.out.trans (by repeat (first | (with_reducible exact Below.refl _ _) | ((with_reducible refine below_setAt ?_ ?_ _); (rotate_left; focus (first | omega | (simp; done) | (simp; omega)))) | ((with_reducible refine Below.alloc ?_ ?_ _); (rotate_left; focus (first | omega | (simp; done) | (simp; omega)))) | (with_reducible refine below_drewN ?_ _) | (with_reducible refine Below.drew ?_)))⟩
            · skip
              have g2 : decide (xn < 1) = false := decide_eq_false h2
              by_cases h3 : 100 < xn
              · skip
                go_wp2
                go_ret
                exact ⟨bool_eq (by rw [rightL_no hlt (by rw [HX.out]; unfold rightO; exact decide_eq_false (by first | (simp only; omega) | (simp; omega)))]), HB.out.trans (by repeat (first | (with_reducible exact Below.refl _ _) | ((with_reducible refine below_setAt ?_ ?_ _); (rotate_left; focus (first | omega | (simp; done) | (simp; omega)))) | ((with_reducible refine Below.alloc ?_ ?_ _); (rotate_left; focus (first | omega | (simp; done) | (simp; omega)))) | (with_reducible refine below_drewN ?_ _) | (with_reducible refine Below.drew ?_)))⟩
              · skip
                have g3 : decide (100 < xn) = false := decide_eq_false h3
                go_wp2
                go_roundw
                case rel => exact ⟨k + 1, by omega, by go_num, HB.out.trans (by repeat (first | (with_reducible exact Below.refl _ _) | ((with_reducible refine below_setAt ?_ ?_ _); (rotate_left; focus (first | omega | (simp; done) | (simp; omega)))) | ((with_reducible refine Below.alloc ?_ ?_ _); (rotate_left; focus (first | omega | (simp; done) | (simp; omega)))) | (with_reducible refine below_drewN ?_ _) | (with_reducible refine Below.drew ?_))), all_take hlt HAL.out (by rw [HX.out]; unfold rightO; exact decide_eq_true (by first | (simp only; omega) | (simp; omega)))⟩
                case measure => first | (simp [intOf]; done) | (simp [intOf]; omega)
          · skip
            by_cases h4 : xn < 1
            · skip
              go_wp2
              go_ret
              exact ⟨bool_eq (by rw [rightL_no hlt (by rw [HX.out]; unfold rightO; exact decide_eq_false (by first | (simp only; omega) | (simp; omega)))]), HB.out.trans (by repeat (first | (with_reducible exact Below.refl _ _) | ((with_reducible refine below_setAt ?_ ?_ _); (rotate_left; focus (first | omega | (simp; done) | (simp; omega)))) | ((with_reducible refine Below.alloc ?_ ?_ _); (rotate_left; focus (first | omega | (simp; done) | (simp; omega)))) | (with_reducible refine below_drewN ?_ _) | (with_reducible refine Below.drew ?_)))⟩
            · skip
              have g4 : decide (xn < 1) = false := decide_eq_false h4
              by_cases h5 : 100 < xn
              · skip
                go_wp2
                go_ret
                exact ⟨bool_eq (by rw [rightL_no hlt (by rw [HX.out]; unfold rightO; exact decide_eq_false (by first | (simp only; omega) | (simp; omega)))]), HB.out.trans (by repeat (first | (with_reducible exact Below.refl _ _) | ((with_reducible refine below_setAt ?_ ?_ _); (rotate_left; focus (first | omega | (simp; done) | (simp; omega)))) | ((with_reducible refine Below.alloc ?_ ?_ _); (rotate_left; focus (first | omega | (simp; done) | (simp; omega)))) | (with_reducible refine below_drewN ?_ _) | (with_reducible refine Below.drew ?_)))⟩
              · skip
                have g5 : decide (100 < xn) = false := decide_eq_false h5
                go_wp2
                go_roundw
                case rel => exact ⟨k + 1, by omega, by go_num, HB.out.trans (by repeat (first | (with_reducible exact Below.refl _ _) | ((with_reducible refine below_setAt ?_ ?_ _); (rotate_left; focus (first | omega | (simp; done) | (simp; omega)))) | ((with_reducible refine Below.alloc ?_ ?_ _); (rotate_left; focus (first | omega | (simp; done) | (simp; omega)))) | (with_reducible refine below_drewN ?_ _) | (with_reducible refine Below.drew ?_))), all_take hlt HAL.out (by rw [HX.out]; unfold rightO; exact decide_eq_true (by first | (simp only; omega) | (simp; omega)))⟩
                case measure => first | (simp [intOf]; done) | (simp [intOf]; omega)
          · skip
            by_cases h6 : xn < 0
            · skip
              go_wp2
              go_ret
              exact ⟨bool_eq (by rw [rightL_no hlt (by rw [HX.out]; unfold rightO; exact decide_eq_false (by first | (simp only; omega) | (simp; omega)))]), HB.out.trans (by repeat (first | (with_reducible exact Below.refl _ _) | ((with_reducible refine below_setAt ?_ ?_ _); (rotate_left; focus (first | omega | (simp; done) | (simp; omega)))) | ((with_reducible refine Below.alloc ?_ ?_ _); (rotate_left; focus (first | omega | (simp; done) | (simp; omega)))) | (with_reducible refine below_drewN ?_ _) | (with_reducible refine Below.drew ?_)))⟩
            · skip
              have g6 : decide (xn < 0) = false := decide_eq_false h6
              by_cases h7 : 100 < xn
              · skip
                go_wp2
                go_ret
                exact ⟨bool_eq (by rw [rightL_no hlt (by rw [HX.out]; unfold rightO; exact decide_eq_false (by first | (simp only; omega) | (simp; omega)))]), HB.out.trans (by repeat (first | (with_reducible exact Below.refl _ _) | ((with_reducible refine below_setAt ?_ ?_ _); (rotate_left; focus (first | omega | (simp; done) | (simp; omega)))) | ((with_reducible refine Below.alloc ?_ ?_ _); (rotate_left; focus (first | omega | (simp; done) | (simp; omega)))) | (with_reducible refine below_drewN ?_ _) | (with_reducible refine Below.drew ?_)))⟩
              · skip
                have g7 : decide (100 < xn) = false := decide_eq_false h7
                by_cases h8 : xd < 1
                · skip
                  go_wp2
                  go_ret
                  exact ⟨bool_eq (by rw [rightL_no hlt (by rw [HX.out]; unfold rightO; exact decide_eq_false (by first | (simp only; omega) | (simp; omega)))]), HB.out.trans (by repeat (first | (with_reducible exact Below.refl _ _) | ((with_reducible refine below_setAt ?_ ?_ _); (rotate_left; focus (first | omega | (simp; done) | (simp; omega)))) | ((with_reducible refine Below.alloc ?_ ?_ _); (rotate_left; focus (first | omega | (simp; done) | (simp; omega)))) | (with_reducible refine below_drewN ?_ _) | (with_reducible refine Below.drew ?_)))⟩
                · skip
                  have g8 : decide (xd < 1) = false := decide_eq_false h8
                  by_cases h9 : 100 < xd
                  · skip
                    go_wp2
                    go_ret
                    exact ⟨bool_eq (by rw [rightL_no hlt (by rw [HX.out]; unfold rightO; exact decide_eq_false (by first | (simp only; omega) | (simp; omega)))]), HB.out.trans (by repeat (first | (with_reducible exact Below.refl _ _) | ((with_reducible refine below_setAt ?_ ?_ _); (rotate_left; focus (first | omega | (simp; done) | (simp; omega)))) | ((with_reducible refine Below.alloc ?_ ?_ _); (rotate_left; focus (first | omega | (simp; done) | (simp; omega)))) | (with_reducible refine below_drewN ?_ _) | (with_reducible refine Below.drew ?_)))⟩
                  · skip
                    have g9 : decide (100 < xd) = false := decide_eq_false h9
                    go_wp2
                    go_roundw
                    case rel => exact ⟨k + 1, by omega, by go_num, HB.out.trans (by repeat (first | (with_reducible exact Below.refl _ _) | ((with_reducible refine below_setAt ?_ ?_ _); (rotate_left; focus (first | omega | (simp; done) | (simp; omega)))) | ((with_reducible refine Below.alloc ?_ ?_ _); (rotate_left; focus (first | omega | (simp; done) | (simp; omega)))) | (with_reducible refine below_drewN ?_ _) | (with_reducible refine Below.drew ?_))), all_take hlt HAL.out (by rw [HX.out]; unfold rightO; exact decide_eq_true (by first | (simp only; omega) | (simp; omega)))⟩
                    case measure => first | (simp [intOf]; done) | (simp [intOf]; omega)
          · skip
            go_wp2
            go_roundw
            case rel => exact ⟨k + 1, by omega, by go_num, HB.out.trans (by repeat (first | (with_reducible exact Below.refl _ _) | ((with_reducible refine below_setAt ?_ ?_ _); (rotate_left; focus (first | omega | (simp; done) | (simp; omega)))) | ((with_reducible refine Below.alloc ?_ ?_ _); (rotate_left; focus (first | omega | (simp; done) | (simp; omega)))) | (with_reducible refine below_drewN ?_ _) | (with_reducible refine Below.drew ?_))), all_take hlt HAL.out (by rw [HX.out]; unfold rightO; exact decide_eq_true (by first | (simp only; omega) | (simp; omega)))⟩
            case measure => first | (simp [intOf]; done) | (simp [intOf]; omega)
          · skip
            go_wp2
            go_roundw
            case rel => exact ⟨k + 1, by omega, by go_num, HB.out.trans (by repeat (first | (with_reducible exact Below.refl _ _) | ((with_reducible refine below_setAt ?_ ?_ _); (rotate_left; focus (first | omega | (simp; done) | (simp; omega)))) | ((with_reducible refine Below.alloc ?_ ?_ _); (rotate_left; focus (first | omega | (simp; done) | (simp; omega)))) | (with_reducible refine below_drewN ?_ _) | (with_reducible refine Below.drew ?_))), all_take hlt HAL.out (by rw [HX.out]; unfold rightO; exact decide_eq_true (by first | (simp only; omega) | (simp; omega)))⟩
            case measure => first | (simp [intOf]; done) | (simp [intOf]; omega)
          · skip
            go_wp2
            go_roundw
            case rel => exact ⟨k + 1, by omega, by go_num, HB.out.trans (by repeat (first | (with_reducible exact Below.refl _ _) | ((with_reducible refine below_setAt ?_ ?_ _); (rotate_left; focus (first | omega | (simp; done) | (simp; omega)))) | ((with_reducible refine Below.alloc ?_ ?_ _); (rotate_left; focus (first | omega | (simp; done) | (simp; omega)))) | (with_reducible refine below_drewN ?_ _) | (with_reducible refine Below.drew ?_))), all_take hlt HAL.out (by rw [HX.out]; unfold rightO; exact decide_eq_true (by first | (simp only; omega) | (simp; omega)))⟩
            case measure => first | (simp [intOf]; done) | (simp [intOf]; omega)
    · have hk' : k = l.length := by omega
      subst hk'
      have E : Hid (rightL l = decide ((l.length : Int) ≤ 20)) := by
        have h := HAL.out
        rw [List.take_length] at h
        show rightL l = _
        unfold rightL; rw [h]; simp; omega
      clear hB
      go_wp2
      go_ret
      exact ⟨bool_eq (by rw [E.out]), HB.out⟩

end Go.Proofs.Ytdlgpfbfhaifgaa.index
