/-
  Contracts of the package clock: factorsFit, part, shift, change, Apply.
-/
import Derived.Test.YtjcmjlkihfcdcaaClock
namespace Go.Proofs.Ytjcmjlkihfcdcaa.clock
open Go.RowKit
set_option linter.unusedVariables false

/-- The factors of an operator fit. -/
def facB (k n d : Int) : Bool := decide ((k = 3 ∨ k = 4 → 1 ≤ n ∧ n ≤ 100) ∧ (k = 5 → 1 ≤ d ∧ d ≤ 100 ∧ 0 ≤ n ∧ n ≤ 100))
theorem fac_yes {k n d : Int} (h : (k = 3 ∨ k = 4 → 1 ≤ n ∧ n ≤ 100) ∧ (k = 5 → 1 ≤ d ∧ d ≤ 100 ∧ 0 ≤ n ∧ n ≤ 100)) : facB k n d = true := by unfold facB; exact decide_eq_true h
theorem fac_no {k n d : Int} (h : ¬ ((k = 3 ∨ k = 4 → 1 ≤ n ∧ n ≤ 100) ∧ (k = 5 → 1 ≤ d ∧ d ≤ 100 ∧ 0 ≤ n ∧ n ≤ 100))) : facB k n d = false := by
  unfold facB; exact decide_eq_false h

theorem box1 {w : World} (o : Obj) : Below w.heap.size w (w.alloc o) := (Below.refl _ _).alloc (Nat.le_refl _) _

/-- One of two or three, or none of them. -/
theorem fits_34 (k n d : Int) (w : World) (hk : k = 3 ∨ k = 4) :
    Calls Try.prog 54 #[.agg #[.int .i64 k, .int .i64 n, .int .i64 d]] w fun e w' => e = .returned (.bool (wthB n 1 100)) ∧ Below w.heap.size w w' := by
  rcases hk with rfl | rfl
  all_goals
    go_enter Try.func54, Try.ntmps54
    go_wp2_with (go_at_call 56; refine (within_any _ _ _ _).mono ?_; rintro e w' ⟨rfl, rfl⟩)
    go_ret
    exact ⟨rfl, box1 _⟩

theorem fits_5 (n d : Int) (w : World) (h : 1 ≤ d ∧ d ≤ 100) :
    Calls Try.prog 54 #[.agg #[.int .i64 5, .int .i64 n, .int .i64 d]] w fun e w' => e = .returned (.bool (wthB n 0 100)) ∧ Below w.heap.size w w' := by
  have HD := Lib.hid (fun w => within_yes d 1 100 w h.1 h.2)
  clear h
  go_enter Try.func54, Try.ntmps54
  go_wp2_with (first | (go_at_call 56; with_reducible refine (HD.out _).mono ?_; rintro e w' ⟨rfl, rfl⟩) | (go_at_call 56; refine (within_any _ _ _ _).mono ?_; rintro e w' ⟨rfl, rfl⟩))
  go_ret
  exact ⟨rfl, box1 _⟩

theorem fits_5no (n d : Int) (w : World) (h : d < 1 ∨ 100 < d) :
    Calls Try.prog 54 #[.agg #[.int .i64 5, .int .i64 n, .int .i64 d]] w fun e w' => e = .returned (.bool false) ∧ Below w.heap.size w w' := by
  have HD := Lib.hid (fun w => within_no d 1 100 w h)
  clear h
  go_enter Try.func54, Try.ntmps54
  go_wp2_with (first | (go_at_call 56; with_reducible refine (HD.out _).mono ?_; rintro e w' ⟨rfl, rfl⟩))
  go_ret
  exact ⟨rfl, box1 _⟩

theorem fits_678 (k n d : Int) (w : World) (hk : k = 6 ∨ k = 7 ∨ k = 8) :
    Calls Try.prog 54 #[.agg #[.int .i64 k, .int .i64 n, .int .i64 d]] w fun e w' => e = .returned (.bool true) ∧ Below w.heap.size w w' := by
  rcases hk with rfl | rfl | rfl
  all_goals
    go_enter Try.func54, Try.ntmps54
    go_wp2
    go_ret
    exact ⟨rfl, box1 _⟩

theorem fits_any (k n d : Int) (w : World) (hk : 3 ≤ k ∧ k ≤ 8) :
    Calls Try.prog 54 #[.agg #[.int .i64 k, .int .i64 n, .int .i64 d]] w fun e w' => e = .returned (.bool (facB k n d)) ∧ Below w.heap.size w w' := by
  by_cases h34 : k = 3 ∨ k = 4
  · have H := fits_34 k n d w h34
    by_cases hn : 1 ≤ n ∧ n ≤ 100
    · rw [wth_yes hn.1 hn.2] at H; rw [fac_yes (by omega)]; exact H
    · rw [wth_no (by omega)] at H; rw [fac_no (by omega)]; exact H
  · by_cases h5 : k = 5
    · subst h5
      by_cases hd : 1 ≤ d ∧ d ≤ 100
      · have H := fits_5 n d w hd
        by_cases hn : 0 ≤ n ∧ n ≤ 100
        · rw [wth_yes hn.1 hn.2] at H; rw [fac_yes (by omega)]; exact H
        · rw [wth_no (by omega)] at H; rw [fac_no (by omega)]; exact H
      · rw [fac_no (by omega)]; exact fits_5no n d w (by omega)
    · rw [fac_yes (by omega)]; exact fits_678 k n d w (by omega)

/-! ### part, shift -/
theorem mul_bd {p n : Int} (h1 : 0 ≤ p) (h2 : p ≤ 2000) (h3 : -1 ≤ n) (h4 : n ≤ 100) : -2000 ≤ p * n ∧ p * n ≤ 200000 := by
  have a : p * n ≤ p * 100 := Int.mul_le_mul_of_nonneg_left h4 h1
  have b : p * (-1) ≤ p * n := Int.mul_le_mul_of_nonneg_left h3 h1
  omega
theorem quo_bd {x d : Int} (h1 : -2000 ≤ x) (h2 : x ≤ 200000) (hd : 1 ≤ d) : -2000 ≤ x / d ∧ x / d ≤ 200000 := by
  have := plain.ediv_le x d hd
  by_cases h : 0 ≤ x
  · have := this.1 h; omega
  · have := this.2 (by omega); omega

theorem part_any (p n d : Int) (w : World) (h1 : 0 ≤ p) (h2 : p ≤ 2000) (h3 : -1 ≤ n) (h4 : n ≤ 100) (h5 : 1 ≤ d) (h6 : d ≤ 9223372036854775807) :
    Calls Try.prog 57 #[.int .i64 p, .int .i64 n, .int .i64 d] w fun e w' => e = .returned (.tuple #[.int .i64 (p * n / d), .bool (p * n % d == 0)]) ∧ ∃ m, w' = w.drewN m := by
  have hm := mul_bd h1 h2 h3 h4
  have v1 : wrap64 (p * n) = p * n := IntWalk.wrap64_in _ (by omega)
  have HF := Lib.hid (fun w => arith.floor_pos (p * n) d w h5 (by omega) (by omega) h6)
  go_enter Try.func57, Try.ntmps57
  go_wp2_with (go_at_call 59; refine (HF.out _).mono ?_; rintro e w' ⟨rfl, m1, rfl⟩)
  go_ret2
  exact ⟨rfl, _, rfl⟩

/-- Whether the shift may be. -/
def shB (p f n d : Int) : Bool := decide (p * n % d = 0 ∧ 0 ≤ f + p * n / d)

theorem shift_any (p f n d : Int) (w : World) (h1 : 0 ≤ p) (h2 : p ≤ 2000) (f1 : 0 ≤ f) (f2 : f ≤ 2000) (h3 : -1 ≤ n) (h4 : n ≤ 100) (h5 : 1 ≤ d) (h6 : d ≤ 100) :
    Calls Try.prog 58 #[.agg #[.int .i64 p, .int .i64 f], .int .i64 n, .int .i64 d] w fun e w' =>
      e = .returned (.tuple #[.agg #[.int .i64 p, .int .i64 (f + p * n / d)], .bool (shB p f n d)]) ∧ Below w.heap.size w w' := by
  have hm := mul_bd h1 h2 h3 h4
  have hq := quo_bd hm.1 hm.2 h5
  have q1 := hq.1
  have q2 := hq.2
  have HP := Lib.hid (fun w => part_any p n d w h1 h2 h3 h4 h5 (by omega))
  clear hm hq
  by_cases hz : p * n % d = 0
  · have z : (p * n % d == 0) = true := by simpa using hz
    by_cases hp : 0 ≤ f + p * n / d
    · have E : Hid (shB p f n d = true) := by unfold shB; exact decide_eq_true ⟨hz, hp⟩
      clear hz
      go_enter Try.func58, Try.ntmps58
      go_wp2_with (go_at_call 57; refine (HP.out _).mono ?_; rintro e w' ⟨rfl, m1, rfl⟩)
      exact bodyPost_ret (v := .tuple #[.agg #[.int .i64 p, .int .i64 (f + p * n / d)], .bool true]) (by simp [results, Try.results58, go_sem] <;> omega) rfl ⟨by rw [E.out], (by repeat (first | exact Below.refl _ _ | (refine Below.setCell ?_ (by first | (simp; done) | (simp; omega)) _) | (refine Below.alloc ?_ (by first | (simp; done) | (simp; omega)) _) | (refine arith.below_drewN ?_ _)))⟩
    · have E : Hid (shB p f n d = false) := by unfold shB; exact decide_eq_false (fun h => hp h.2)
      clear hz
      have hp' : f + p * n / d < 0 := by omega
      clear hp
      go_enter Try.func58, Try.ntmps58
      go_wp2_with (go_at_call 57; refine (HP.out _).mono ?_; rintro e w' ⟨rfl, m1, rfl⟩)
      exact bodyPost_ret (v := .tuple #[.agg #[.int .i64 p, .int .i64 (f + p * n / d)], .bool false]) (by simp [results, Try.results58, go_sem] <;> omega) rfl ⟨by rw [E.out], (by repeat (first | exact Below.refl _ _ | (refine Below.setCell ?_ (by first | (simp; done) | (simp; omega)) _) | (refine Below.alloc ?_ (by first | (simp; done) | (simp; omega)) _) | (refine arith.below_drewN ?_ _)))⟩
  · have z : (p * n % d == 0) = false := by simpa using hz
    have E : Hid (shB p f n d = false) := by unfold shB; exact decide_eq_false (fun h => hz h.1)
    clear hz
    go_enter Try.func58, Try.ntmps58
    go_wp2_with (go_at_call 57; refine (HP.out _).mono ?_; rintro e w' ⟨rfl, m1, rfl⟩)
    exact bodyPost_ret (v := .tuple #[.agg #[.int .i64 p, .int .i64 (f + p * n / d)], .bool false]) (by simp [results, Try.results58, go_sem] <;> omega) rfl ⟨by rw [E.out], (by repeat (first | exact Below.refl _ _ | (refine Below.setCell ?_ (by first | (simp; done) | (simp; omega)) _) | (refine Below.alloc ?_ (by first | (simp; done) | (simp; omega)) _) | (refine arith.below_drewN ?_ _)))⟩

/-! ### change -/
theorem change_over (p f n d : Int) (w : World) (h1 : 0 ≤ p) (h2 : p ≤ 2000) (f1 : 0 ≤ f) (f2 : f ≤ 2000) (h3 : 1 ≤ n) (h4 : n ≤ 100) :
    Calls Try.prog 55 #[.agg #[.int .i64 p, .int .i64 f], .agg #[.int .i64 3, .int .i64 n, .int .i64 d]] w fun e w' =>
      e = .returned (.tuple #[.agg #[.int .i64 (p / n), .int .i64 f], .bool (p % n == 0)]) ∧ Below w.heap.size w w' := by
  have HP := Lib.hid (fun w => part_any p 1 n w h1 h2 (by omega) (by omega) h3 (by omega))
  have e1 : p * 1 = p := by omega
  rw [e1] at HP
  clear e1
  go_enter Try.func55, Try.ntmps55
  go_wp2_with (go_at_call 57; refine (HP.out _).mono ?_; rintro e w' ⟨rfl, m1, rfl⟩)
  exact bodyPost_ret (v := .tuple #[.agg #[.int .i64 (p / n), .int .i64 f], .bool (p % n == 0)]) (by simp [results, Try.results55, go_sem]) rfl ⟨rfl, (by repeat (first | exact Below.refl _ _ | (refine Below.setCell ?_ (by first | (simp; done) | (simp; omega)) _) | (refine Below.alloc ?_ (by first | (simp; done) | (simp; omega)) _) | (refine arith.below_drewN ?_ _)))⟩

theorem change_under (p f n d : Int) (w : World) (h1 : 0 ≤ p) (h2 : p ≤ 2000) (f1 : 0 ≤ f) (f2 : f ≤ 2000) (h3 : 1 ≤ n) (h4 : n ≤ 100) :
    Calls Try.prog 55 #[.agg #[.int .i64 p, .int .i64 f], .agg #[.int .i64 4, .int .i64 n, .int .i64 d]] w fun e w' =>
      e = .returned (.tuple #[.agg #[.int .i64 (p * n), .int .i64 f], .bool true]) ∧ Below w.heap.size w w' := by
  have HP := Lib.hid (fun w => part_any p n 1 w h1 h2 (by omega) (by omega) (by omega) (by omega))
  have e1 : p * n / 1 = p * n := by omega
  have e2 : (p * n % 1 == 0) = true := by simp
  rw [e1, e2] at HP
  clear e1 e2
  go_enter Try.func55, Try.ntmps55
  go_wp2_with (go_at_call 57; refine (HP.out _).mono ?_; rintro e w' ⟨rfl, m1, rfl⟩)
  exact bodyPost_ret (v := .tuple #[.agg #[.int .i64 (p * n), .int .i64 f], .bool true]) (by simp [results, Try.results55, go_sem]) rfl ⟨rfl, (by repeat (first | exact Below.refl _ _ | (refine Below.setCell ?_ (by first | (simp; done) | (simp; omega)) _) | (refine Below.alloc ?_ (by first | (simp; done) | (simp; omega)) _) | (refine arith.below_drewN ?_ _)))⟩

theorem change_shift (p f n d : Int) (w : World) (h1 : 0 ≤ p) (h2 : p ≤ 2000) (f1 : 0 ≤ f) (f2 : f ≤ 2000) (h3 : 0 ≤ n) (h4 : n ≤ 100) (h5 : 1 ≤ d) (h6 : d ≤ 100) :
    Calls Try.prog 55 #[.agg #[.int .i64 p, .int .i64 f], .agg #[.int .i64 5, .int .i64 n, .int .i64 d]] w fun e w' =>
      e = .returned (.tuple #[.agg #[.int .i64 p, .int .i64 (f + p * n / d)], .bool (p * n % d == 0)]) ∧ Below w.heap.size w w' := by
  have hs : shB p f n d = (p * n % d == 0) := by
    have hm := Int.mul_nonneg h1 h3
    have hq := Int.ediv_nonneg hm (show 0 ≤ d by omega)
    unfold shB
    by_cases hz : p * n % d = 0
    · rw [decide_eq_true ⟨hz, by omega⟩]; simp [hz]
    · rw [decide_eq_false (fun h => hz h.1)]; simp [hz]
  have HP := Lib.hid (fun w => shift_any p f n d w h1 h2 f1 f2 (by omega) h4 h5 h6)
  rw [hs] at HP
  clear hs
  go_enter Try.func55, Try.ntmps55
  go_wp2_with (go_at_call 58; refine (HP.out _).mono ?_; rintro e w1 ⟨rfl, hb⟩; obtain ⟨hc, hf⟩ := arith.bcell hb)
  exact bodyPost_ret (v := .tuple #[.agg #[.int .i64 p, .int .i64 (f + p * n / d)], .bool (p * n % d == 0)]) (by simp [results, Try.results55, go_sem, hc]) rfl ⟨rfl, (by repeat (first | exact Below.refl _ _ | (refine Below.setCell ?_ (by first | (simp; done) | (simp; omega)) _) | (refine Below.alloc ?_ (by first | (simp; done) | (simp; omega)) _) | (refine arith.below_drewN ?_ _) | (refine Below.trans ?_ (hb.mono (by first | (simp; done) | (simp; omega))))))⟩

theorem change_fby (p f n d : Int) (w : World) :
    Calls Try.prog 55 #[.agg #[.int .i64 p, .int .i64 f], .agg #[.int .i64 6, .int .i64 n, .int .i64 d]] w fun e w' =>
      e = .returned (.tuple #[.agg #[.int .i64 p, .int .i64 f], .bool true]) ∧ Below w.heap.size w w' := by
  go_enter Try.func55, Try.ntmps55
  go_wp2
  exact bodyPost_ret (v := .tuple #[.agg #[.int .i64 p, .int .i64 f], .bool true]) (by simp [results, Try.results55, go_sem]) rfl ⟨rfl, (by repeat (first | exact Below.refl _ _ | (refine Below.setCell ?_ (by first | (simp; done) | (simp; omega)) _) | (refine Below.alloc ?_ (by first | (simp; done) | (simp; omega)) _) | (refine arith.below_drewN ?_ _)))⟩

theorem change_tail (p f n d : Int) (w : World) (h1 : 0 ≤ p) (h2 : p ≤ 2000) (f1 : 0 ≤ f) (f2 : f ≤ 2000) :
    Calls Try.prog 55 #[.agg #[.int .i64 p, .int .i64 f], .agg #[.int .i64 7, .int .i64 n, .int .i64 d]] w fun e w' =>
      e = .returned (.tuple #[.agg #[.int .i64 p, .int .i64 (f + p)], .bool true]) ∧ Below w.heap.size w w' := by
  have hs : shB p f 1 1 = true := by unfold shB; exact decide_eq_true ⟨by omega, by omega⟩
  have e1 : p * 1 / 1 = p := by omega
  have HP := Lib.hid (fun w => shift_any p f 1 1 w h1 h2 f1 f2 (by omega) (by omega) (by omega) (by omega))
  rw [hs, e1] at HP
  clear hs e1
  go_enter Try.func55, Try.ntmps55
  go_wp2_with (go_at_call 58; refine (HP.out _).mono ?_; rintro e w1 ⟨rfl, hb⟩; obtain ⟨hc, hf⟩ := arith.bcell hb)
  exact bodyPost_ret (v := .tuple #[.agg #[.int .i64 p, .int .i64 (f + p)], .bool true]) (by simp [results, Try.results55, go_sem, hc]) rfl ⟨rfl, (by repeat (first | exact Below.refl _ _ | (refine Below.setCell ?_ (by first | (simp; done) | (simp; omega)) _) | (refine Below.alloc ?_ (by first | (simp; done) | (simp; omega)) _) | (refine arith.below_drewN ?_ _) | (refine Below.trans ?_ (hb.mono (by first | (simp; done) | (simp; omega))))))⟩

theorem change_cons (p f n d : Int) (w : World) (h1 : 0 ≤ p) (h2 : p ≤ 2000) (f1 : 0 ≤ f) (f2 : f ≤ 2000) :
    Calls Try.prog 55 #[.agg #[.int .i64 p, .int .i64 f], .agg #[.int .i64 8, .int .i64 n, .int .i64 d]] w fun e w' =>
      e = .returned (.tuple #[.agg #[.int .i64 p, .int .i64 (f - p)], .bool (decide (p ≤ f))]) ∧ Below w.heap.size w w' := by
  have hs : shB p f (-1) 1 = decide (p ≤ f) := by
    unfold shB
    by_cases h : p ≤ f
    · rw [decide_eq_true h]; exact decide_eq_true ⟨by omega, by omega⟩
    · rw [decide_eq_false h]; exact decide_eq_false (by omega)
  have e1 : f + p * -1 / 1 = f - p := by omega
  have HP := Lib.hid (fun w => shift_any p f (-1) 1 w h1 h2 f1 f2 (by omega) (by omega) (by omega) (by omega))
  rw [hs, e1] at HP
  clear hs e1
  go_enter Try.func55, Try.ntmps55
  go_wp2_with (go_at_call 58; refine (HP.out _).mono ?_; rintro e w1 ⟨rfl, hb⟩; obtain ⟨hc, hf⟩ := arith.bcell hb)
  exact bodyPost_ret (v := .tuple #[.agg #[.int .i64 p, .int .i64 (f - p)], .bool (decide (p ≤ f))]) (by simp [results, Try.results55, go_sem, hc]) rfl ⟨rfl, (by repeat (first | exact Below.refl _ _ | (refine Below.setCell ?_ (by first | (simp; done) | (simp; omega)) _) | (refine Below.alloc ?_ (by first | (simp; done) | (simp; omega)) _) | (refine arith.below_drewN ?_ _) | (refine Below.trans ?_ (hb.mono (by first | (simp; done) | (simp; omega))))))⟩

end Go.Proofs.Ytjcmjlkihfcdcaa.clock
