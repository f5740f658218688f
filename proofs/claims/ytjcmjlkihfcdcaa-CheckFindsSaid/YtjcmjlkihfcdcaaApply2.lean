/-
  Contract of the package clock's Apply.
-/
import Derived.Test.YtjcmjlkihfcdcaaApply
namespace Go.Proofs.Ytjcmjlkihfcdcaa.clock
open Go.RowKit
set_option linter.unusedVariables false

/-- A clock and an error. -/
def ansC (p f e : Int) : Value := .tuple #[.agg #[.int .i64 p, .int .i64 f], .int .i64 e]
theorem sz_of {B k : Nat} {a w : World} (h : Below B a w) (hk : k < a.heap.size) : k < w.heap.size := Nat.lt_of_lt_of_le hk h.size

theorem apply_wrong (p f k n d : Int) (w : World) (h : ¬ (1 ≤ p ∧ p ≤ 2000 ∧ 0 ≤ f ∧ f ≤ 2000)) :
    Calls Try.prog 52 #[.agg #[.int .i64 p, .int .i64 f], .agg #[.int .i64 k, .int .i64 n, .int .i64 d]] w fun e w' => e = .returned (ansC 0 0 12) ∧ Below w.heap.size w w' := by
  have HR := Lib.hid (fun w => right_false p f w h)
  clear h
  go_enter Try.func52, Try.ntmps52
  go_wp2_with (go_at_call 53; (with_reducible refine (HR.out _).mono ?_); rintro e w1 ⟨rfl, hb1⟩; obtain ⟨hc1, hf1⟩ := arith.bcell hb1; have ha1 : w.heap.size < w1.heap.size := sz_of hb1 (by first | (simp; done) | (simp; omega)); have hy1 : w.heap.size + 1 < w1.heap.size := sz_of hb1 (by first | (simp; done) | (simp; omega)); have hx1 : w.heap.size + 1 + 1 < w1.heap.size := sz_of hb1 (by simp))
  exact bodyPost_ret (v := .tuple #[.agg #[.int .i64 0, .int .i64 0], .int .i64 12]) (by simp only [results, Try.results52]; go_simp) rfl ⟨rfl, (by repeat (first | exact Below.refl _ _ | (refine Below.setCell ?_ (by first | omega | (simp; done) | (simp; omega)) _) | (refine Below.alloc ?_ (by first | omega | (simp; done) | (simp; omega)) _) | (refine arith.below_drewN ?_ _) | (refine Below.trans ?_ (hb1.mono (by first | omega | (simp; done) | (simp; omega))))))⟩

theorem apply_kind (p f k n d : Int) (w : World) (h : 1 ≤ p ∧ p ≤ 2000 ∧ 0 ≤ f ∧ f ≤ 2000) (hk : k < 3 ∨ 8 < k) :
    Calls Try.prog 52 #[.agg #[.int .i64 p, .int .i64 f], .agg #[.int .i64 k, .int .i64 n, .int .i64 d]] w fun e w' => e = .returned (ansC 0 0 12) ∧ Below w.heap.size w w' := by
  have HR := Lib.hid (fun w => right_true p f w h)
  clear h
  rcases hk with hk | hk
  all_goals
    go_enter Try.func52, Try.ntmps52
    go_wp2_with (go_at_call 53; (with_reducible refine (HR.out _).mono ?_); rintro e w1 ⟨rfl, hb1⟩; obtain ⟨hc1, hf1⟩ := arith.bcell hb1; have ha1 : w.heap.size < w1.heap.size := sz_of hb1 (by first | (simp; done) | (simp; omega)); have hy1 : w.heap.size + 1 < w1.heap.size := sz_of hb1 (by first | (simp; done) | (simp; omega)); have hx1 : w.heap.size + 1 + 1 < w1.heap.size := sz_of hb1 (by simp))
    all_goals exact bodyPost_ret (v := .tuple #[.agg #[.int .i64 0, .int .i64 0], .int .i64 12]) (by simp only [results, Try.results52]; go_simp) rfl ⟨rfl, (by repeat (first | exact Below.refl _ _ | (refine Below.setCell ?_ (by first | omega | (simp; done) | (simp; omega)) _) | (refine Below.alloc ?_ (by first | omega | (simp; done) | (simp; omega)) _) | (refine arith.below_drewN ?_ _) | (refine Below.trans ?_ (hb1.mono (by first | omega | (simp; done) | (simp; omega))))))⟩

theorem apply_nofit (p f k n d : Int) (w : World) (h : 1 ≤ p ∧ p ≤ 2000 ∧ 0 ≤ f ∧ f ≤ 2000) (hk : 3 ≤ k ∧ k ≤ 8) (hn : facB k n d = false) :
    Calls Try.prog 52 #[.agg #[.int .i64 p, .int .i64 f], .agg #[.int .i64 k, .int .i64 n, .int .i64 d]] w fun e w' => e = .returned (ansC 0 0 7) ∧ Below w.heap.size w w' := by
  have HR := Lib.hid (fun w => right_true p f w h)
  have HF := Lib.hid (fun w => fits_any k n d w hk)
  rw [hn] at HF
  have k1 := hk.1
  have k2 := hk.2
  clear h hk hn
  go_enter Try.func52, Try.ntmps52
  go_wp2_with (first | (go_at_call 53; (with_reducible refine (HR.out _).mono ?_); rintro e w1 ⟨rfl, hb1⟩; obtain ⟨hc1, hf1⟩ := arith.bcell hb1; have ha1 : w.heap.size < w1.heap.size := sz_of hb1 (by first | (simp; done) | (simp; omega)); have hy1 : w.heap.size + 1 < w1.heap.size := sz_of hb1 (by first | (simp; done) | (simp; omega)); have hx1 : w.heap.size + 1 + 1 < w1.heap.size := sz_of hb1 (by simp)) | (go_at_call 54; (with_reducible refine (HF.out _).mono ?_); rintro e w2 ⟨rfl, hb2⟩; obtain ⟨hc2, hf2⟩ := arith.bcell hb2; have ha2 : w.heap.size < w2.heap.size := Nat.lt_of_lt_of_le ha1 hb2.size; have hy2 : w.heap.size + 1 < w2.heap.size := Nat.lt_of_lt_of_le hy1 hb2.size; have hx2 : w.heap.size + 1 + 1 < w2.heap.size := Nat.lt_of_lt_of_le hx1 hb2.size))
  exact bodyPost_ret (v := .tuple #[.agg #[.int .i64 0, .int .i64 0], .int .i64 7]) (by simp only [results, Try.results52]; go_simp) rfl ⟨rfl, (by repeat (first | exact Below.refl _ _ | (refine Below.setCell ?_ (by first | omega | (simp; done) | (simp; omega)) _) | (refine Below.alloc ?_ (by first | omega | (simp; done) | (simp; omega)) _) | (refine arith.below_drewN ?_ _) | (refine Below.trans ?_ (hb2.mono (by first | omega | (simp; done) | (simp; omega)))) | (refine Below.trans ?_ (hb1.mono (by first | omega | (simp; done) | (simp; omega))))))⟩

theorem apply_no (p f k n d p' f' : Int) (w : World) (h : 1 ≤ p ∧ p ≤ 2000 ∧ 0 ≤ f ∧ f ≤ 2000) (hk : 3 ≤ k ∧ k ≤ 8) (hn : facB k n d = true)
    (HC0 : ∀ w, Calls Try.prog 55 #[.agg #[.int .i64 p, .int .i64 f], .agg #[.int .i64 k, .int .i64 n, .int .i64 d]] w fun e w' =>
      e = .returned (.tuple #[.agg #[.int .i64 p', .int .i64 f'], .bool false]) ∧ Below w.heap.size w w') :
    Calls Try.prog 52 #[.agg #[.int .i64 p, .int .i64 f], .agg #[.int .i64 k, .int .i64 n, .int .i64 d]] w fun e w' => e = .returned (ansC 0 0 5) ∧ Below w.heap.size w w' := by
  have HR := Lib.hid (fun w => right_true p f w h)
  have HF := Lib.hid (fun w => fits_any k n d w hk)
  rw [hn] at HF
  have HC := Lib.hid HC0
  have k1 := hk.1
  have k2 := hk.2
  clear h hk hn HC0
  go_enter Try.func52, Try.ntmps52
  go_wp2_with (first | (go_at_call 53; (with_reducible refine (HR.out _).mono ?_); rintro e w1 ⟨rfl, hb1⟩; obtain ⟨hc1, hf1⟩ := arith.bcell hb1; have ha1 : w.heap.size < w1.heap.size := sz_of hb1 (by first | (simp; done) | (simp; omega)); have hy1 : w.heap.size + 1 < w1.heap.size := sz_of hb1 (by first | (simp; done) | (simp; omega)); have hx1 : w.heap.size + 1 + 1 < w1.heap.size := sz_of hb1 (by simp)) | (go_at_call 54; (with_reducible refine (HF.out _).mono ?_); rintro e w2 ⟨rfl, hb2⟩; obtain ⟨hc2, hf2⟩ := arith.bcell hb2; have ha2 : w.heap.size < w2.heap.size := Nat.lt_of_lt_of_le ha1 hb2.size; have hy2 : w.heap.size + 1 < w2.heap.size := Nat.lt_of_lt_of_le hy1 hb2.size; have hx2 : w.heap.size + 1 + 1 < w2.heap.size := Nat.lt_of_lt_of_le hx1 hb2.size) | (go_at_call 55; (with_reducible refine (HC.out _).mono ?_); rintro e w3 ⟨rfl, hb3⟩; obtain ⟨hc3, hf3⟩ := arith.bcell hb3; have ha3 : w.heap.size < w3.heap.size := Nat.lt_of_lt_of_le ha2 hb3.size; have hy3 : w.heap.size + 1 < w3.heap.size := Nat.lt_of_lt_of_le hy2 hb3.size; have hx3 : w.heap.size + 1 + 1 < w3.heap.size := Nat.lt_of_lt_of_le hx2 hb3.size))
  exact bodyPost_ret (v := .tuple #[.agg #[.int .i64 0, .int .i64 0], .int .i64 5]) (by simp only [results, Try.results52]; go_simp) rfl ⟨rfl, (by repeat (first | exact Below.refl _ _ | (refine Below.setCell ?_ (by first | omega | (simp; done) | (simp; omega)) _) | (refine Below.alloc ?_ (by first | omega | (simp; done) | (simp; omega)) _) | (refine arith.below_drewN ?_ _) | (refine Below.trans ?_ (hb3.mono (by first | omega | (simp; done) | (simp; omega)))) | (refine Below.trans ?_ (hb2.mono (by first | omega | (simp; done) | (simp; omega)))) | (refine Below.trans ?_ (hb1.mono (by first | omega | (simp; done) | (simp; omega))))))⟩

theorem apply_far (p f k n d p' f' : Int) (w : World) (h : 1 ≤ p ∧ p ≤ 2000 ∧ 0 ≤ f ∧ f ≤ 2000) (hk : 3 ≤ k ∧ k ≤ 8) (hn : facB k n d = true) (hr : ¬ (1 ≤ p' ∧ p' ≤ 2000 ∧ 0 ≤ f' ∧ f' ≤ 2000))
    (HC0 : ∀ w, Calls Try.prog 55 #[.agg #[.int .i64 p, .int .i64 f], .agg #[.int .i64 k, .int .i64 n, .int .i64 d]] w fun e w' =>
      e = .returned (.tuple #[.agg #[.int .i64 p', .int .i64 f'], .bool true]) ∧ Below w.heap.size w w') :
    Calls Try.prog 52 #[.agg #[.int .i64 p, .int .i64 f], .agg #[.int .i64 k, .int .i64 n, .int .i64 d]] w fun e w' => e = .returned (ansC 0 0 7) ∧ Below w.heap.size w w' := by
  have HR2 := Lib.hid (fun w => right_false p' f' w hr)
  have tok := trivial
  have HR := Lib.hid (fun w => right_true p f w h)
  have HF := Lib.hid (fun w => fits_any k n d w hk)
  rw [hn] at HF
  have HC := Lib.hid HC0
  have k1 := hk.1
  have k2 := hk.2
  clear h hk hn HC0
  clear hr
  go_enter Try.func52, Try.ntmps52
  go_wp2_with (first | (have _t := tok; go_at_call 53; (with_reducible refine (HR.out _).mono ?_); rintro e w1 ⟨rfl, hb1⟩; obtain ⟨hc1, hf1⟩ := arith.bcell hb1; clear tok; have ha1 : w.heap.size < w1.heap.size := sz_of hb1 (by first | (simp; done) | (simp; omega)); have hy1 : w.heap.size + 1 < w1.heap.size := sz_of hb1 (by first | (simp; done) | (simp; omega)); have hx1 : w.heap.size + 1 + 1 < w1.heap.size := sz_of hb1 (by simp)) | (go_at_call 54; (with_reducible refine (HF.out _).mono ?_); rintro e w2 ⟨rfl, hb2⟩; obtain ⟨hc2, hf2⟩ := arith.bcell hb2; have ha2 : w.heap.size < w2.heap.size := Nat.lt_of_lt_of_le ha1 hb2.size; have hy2 : w.heap.size + 1 < w2.heap.size := Nat.lt_of_lt_of_le hy1 hb2.size; have hx2 : w.heap.size + 1 + 1 < w2.heap.size := Nat.lt_of_lt_of_le hx1 hb2.size) | (go_at_call 55; (with_reducible refine (HC.out _).mono ?_); rintro e w3 ⟨rfl, hb3⟩; obtain ⟨hc3, hf3⟩ := arith.bcell hb3; have ha3 : w.heap.size < w3.heap.size := Nat.lt_of_lt_of_le ha2 hb3.size; have hy3 : w.heap.size + 1 < w3.heap.size := Nat.lt_of_lt_of_le hy2 hb3.size; have hx3 : w.heap.size + 1 + 1 < w3.heap.size := Nat.lt_of_lt_of_le hx2 hb3.size) | (go_at_call 53; (with_reducible refine (HR2.out _).mono ?_); rintro e w4 ⟨rfl, hb4⟩; obtain ⟨hc4, hf4⟩ := arith.bcell hb4; have ha4 : w.heap.size < w4.heap.size := sz_of hb4 (by first | (simp; done) | (simp; omega)); have hy4 : w.heap.size + 1 < w4.heap.size := sz_of hb4 (by first | (simp; done) | (simp; omega)); have hx4 : w.heap.size + 1 + 1 < w4.heap.size := sz_of hb4 (by first | (simp; done) | (simp; omega)); have hv4 : w3.heap.size < w4.heap.size := sz_of hb4 (by simp); have he4 : w.heap.size + 1 + 1 < w3.heap.size + 1 := (by omega); have hn4 : ¬ w.heap.size + 1 + 1 = w3.heap.size := (by omega)))
  exact bodyPost_ret (v := .tuple #[.agg #[.int .i64 0, .int .i64 0], .int .i64 7]) (by simp only [results, Try.results52]; go_simp) rfl ⟨rfl, (by repeat (first | exact Below.refl _ _ | (refine Below.setCell ?_ (by first | omega | (simp; done) | (simp; omega)) _) | (refine Below.alloc ?_ (by first | omega | (simp; done) | (simp; omega)) _) | (refine arith.below_drewN ?_ _) | (refine Below.trans ?_ (hb4.mono (by first | omega | (simp; done) | (simp; omega)))) | (refine Below.trans ?_ (hb3.mono (by first | omega | (simp; done) | (simp; omega)))) | (refine Below.trans ?_ (hb2.mono (by first | omega | (simp; done) | (simp; omega)))) | (refine Below.trans ?_ (hb1.mono (by first | omega | (simp; done) | (simp; omega))))))⟩

theorem apply_yes (p f k n d p' f' : Int) (w : World) (h : 1 ≤ p ∧ p ≤ 2000 ∧ 0 ≤ f ∧ f ≤ 2000) (hk : 3 ≤ k ∧ k ≤ 8) (hn : facB k n d = true) (hr : 1 ≤ p' ∧ p' ≤ 2000 ∧ 0 ≤ f' ∧ f' ≤ 2000)
    (HC0 : ∀ w, Calls Try.prog 55 #[.agg #[.int .i64 p, .int .i64 f], .agg #[.int .i64 k, .int .i64 n, .int .i64 d]] w fun e w' =>
      e = .returned (.tuple #[.agg #[.int .i64 p', .int .i64 f'], .bool true]) ∧ Below w.heap.size w w') :
    Calls Try.prog 52 #[.agg #[.int .i64 p, .int .i64 f], .agg #[.int .i64 k, .int .i64 n, .int .i64 d]] w fun e w' => e = .returned (ansC p' f' 0) ∧ Below w.heap.size w w' := by
  have HR2 := Lib.hid (fun w => right_true p' f' w hr)
  have tok := trivial
  have HR := Lib.hid (fun w => right_true p f w h)
  have HF := Lib.hid (fun w => fits_any k n d w hk)
  rw [hn] at HF
  have HC := Lib.hid HC0
  have k1 := hk.1
  have k2 := hk.2
  clear h hk hn HC0
  clear hr
  go_enter Try.func52, Try.ntmps52
  go_wp2_with (first | (have _t := tok; go_at_call 53; (with_reducible refine (HR.out _).mono ?_); rintro e w1 ⟨rfl, hb1⟩; obtain ⟨hc1, hf1⟩ := arith.bcell hb1; clear tok; have ha1 : w.heap.size < w1.heap.size := sz_of hb1 (by first | (simp; done) | (simp; omega)); have hy1 : w.heap.size + 1 < w1.heap.size := sz_of hb1 (by first | (simp; done) | (simp; omega)); have hx1 : w.heap.size + 1 + 1 < w1.heap.size := sz_of hb1 (by simp)) | (go_at_call 54; (with_reducible refine (HF.out _).mono ?_); rintro e w2 ⟨rfl, hb2⟩; obtain ⟨hc2, hf2⟩ := arith.bcell hb2; have ha2 : w.heap.size < w2.heap.size := Nat.lt_of_lt_of_le ha1 hb2.size; have hy2 : w.heap.size + 1 < w2.heap.size := Nat.lt_of_lt_of_le hy1 hb2.size; have hx2 : w.heap.size + 1 + 1 < w2.heap.size := Nat.lt_of_lt_of_le hx1 hb2.size) | (go_at_call 55; (with_reducible refine (HC.out _).mono ?_); rintro e w3 ⟨rfl, hb3⟩; obtain ⟨hc3, hf3⟩ := arith.bcell hb3; have ha3 : w.heap.size < w3.heap.size := Nat.lt_of_lt_of_le ha2 hb3.size; have hy3 : w.heap.size + 1 < w3.heap.size := Nat.lt_of_lt_of_le hy2 hb3.size; have hx3 : w.heap.size + 1 + 1 < w3.heap.size := Nat.lt_of_lt_of_le hx2 hb3.size) | (go_at_call 53; (with_reducible refine (HR2.out _).mono ?_); rintro e w4 ⟨rfl, hb4⟩; obtain ⟨hc4, hf4⟩ := arith.bcell hb4; have ha4 : w.heap.size < w4.heap.size := sz_of hb4 (by first | (simp; done) | (simp; omega)); have hy4 : w.heap.size + 1 < w4.heap.size := sz_of hb4 (by first | (simp; done) | (simp; omega)); have hx4 : w.heap.size + 1 + 1 < w4.heap.size := sz_of hb4 (by first | (simp; done) | (simp; omega)); have hv4 : w3.heap.size < w4.heap.size := sz_of hb4 (by simp); have he4 : w.heap.size + 1 + 1 < w3.heap.size + 1 := (by omega); have hn4 : ¬ w.heap.size + 1 + 1 = w3.heap.size := (by omega)))
  exact bodyPost_ret (v := .tuple #[.agg #[.int .i64 p', .int .i64 f'], .int .i64 0]) (by simp only [results, Try.results52]; go_simp) rfl ⟨rfl, (by repeat (first | exact Below.refl _ _ | (refine Below.setCell ?_ (by first | omega | (simp; done) | (simp; omega)) _) | (refine Below.alloc ?_ (by first | omega | (simp; done) | (simp; omega)) _) | (refine arith.below_drewN ?_ _) | (refine Below.trans ?_ (hb4.mono (by first | omega | (simp; done) | (simp; omega)))) | (refine Below.trans ?_ (hb3.mono (by first | omega | (simp; done) | (simp; omega)))) | (refine Below.trans ?_ (hb2.mono (by first | omega | (simp; done) | (simp; omega)))) | (refine Below.trans ?_ (hb1.mono (by first | omega | (simp; done) | (simp; omega))))))⟩

end Go.Proofs.Ytjcmjlkihfcdcaa.clock
