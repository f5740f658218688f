/-
  Contracts of the reader's small calls, four: number, signed.
-/
import Derived.Test.YtlpoimagikolfaaRead3
namespace Go.Proofs.Ytlpoimagikolfaa.syn
open Go.RowKit
set_option linter.unusedVariables false
set_option linter.unusedSimpArgs false

theorem number_any {w : World} {r : Nat} {en : Int} {S : St} (h : Rd w r en S) (lo hi : Int) {n : Int} {S' : St} (hy : S.number en lo hi = (n, S')) :
    Calls Try.prog 49 #[.pointer (some ⟨r, 0, none⟩), .int .i64 lo, .int .i64 hi] w fun e w' => e = .returned (.int .i64 n) ∧ Rd w' r en S' ∧ Upon r w w' := by
  have HR := Lib.hid h
  have hr := h.lt
  obtain ⟨xk, xt, xn, xa, hx⟩ : ∃ xk xt xn xa, S.peek en = ⟨xk, xt, xn, xa⟩ := ⟨_, _, _, _, rfl⟩
  have HX := Lib.hid hx
  obtain ⟨yk, yt, yn, ya, S1, hs⟩ : ∃ yk yt yn ya S1, S.need en (xk == 2) = (⟨yk, yt, yn, ya⟩, S1) := ⟨_, _, _, _, _, rfl⟩
  have HY := Lib.hid hs
  obtain ⟨rfl, hS⟩ : yn = n ∧ (if yn < lo ∨ hi < yn then S1.fail ya 7 else S1) = S' := by
    unfold St.number St.num at hy
    rw [hx] at hy
    simp only [hs] at hy
    exact ⟨congrArg Prod.fst hy, congrArg Prod.snd hy⟩
  clear hy hs hx h
  by_cases h1 : yn < lo
  · rw [if_pos (.inl h1)] at hS
    subst hS
    go_enter Try.func49, Try.ntmps49
    repeat' (first | (go_at_call 58; refine (seesNumber_any (Rd.below HR.out ?_) HX.out).mono ?_; exact (by repeat (first | (with_reducible exact Below.refl _ _) | ((with_reducible refine below_setAt ?_ ?_ _); (rotate_left; focus (first | omega | (simp; done) | (simp; omega)))) | ((with_reducible refine Below.alloc ?_ ?_ _); (rotate_left; focus (first | omega | (simp; done) | (simp; omega)))) | (with_reducible refine below_drewN ?_ _) | (with_reducible refine Below.drew ?_))); rintro e w1 ⟨rfl, hb1⟩) | (go_at_call 43; refine (need_any (Rd.below HR.out ?_) _ HY.out).mono ?_; exact (by repeat (first | (with_reducible exact Below.refl _ _) | ((with_reducible refine below_setAt ?_ ?_ _); (rotate_left; focus (first | omega | (simp; done) | (simp; omega)))) | ((with_reducible refine Below.alloc ?_ ?_ _); (rotate_left; focus (first | omega | (simp; done) | (simp; omega)))) | (with_reducible refine below_drewN ?_ _) | (with_reducible refine Below.drew ?_) | ((with_reducible refine Below.trans ?_ (Below.mono hb1 ?_)); (rotate_left; focus (first | omega | (simp; done) | (simp; omega)))))); rintro e w2 ⟨rfl, hR2, hu2⟩; have HR2 := Lib.hid hR2; have hr2 := hR2.lt; clear hR2) | (go_at_call 36; refine (fail_any (Rd.below HR2.out ?_) _ _).mono ?_; exact (by repeat (first | (with_reducible exact Below.refl _ _) | ((with_reducible refine below_setAt ?_ ?_ _); (rotate_left; focus (first | omega | (simp; done) | (simp; omega)))) | ((with_reducible refine Below.alloc ?_ ?_ _); (rotate_left; focus (first | omega | (simp; done) | (simp; omega)))) | (with_reducible refine below_drewN ?_ _) | (with_reducible refine Below.drew ?_))); rintro e w3 ⟨rfl, hR3, hu3⟩; have HR3 := Lib.hid hR3; clear hR3; obtain ⟨hc3, hf3⟩ := ucell hu3; have a3 : w2.heap.size < w3.heap.size := Nat.lt_of_lt_of_le (by first | omega | (simp; done) | (simp; omega)) hu3.size; have hne : ¬ w2.heap.size = r := (by omega)) | go_values | go_skip | go_guarded | go_step | go_upon | (simp only [Int.not_lt, Int.not_le] at *; go_simp) | (go_values <;> (try go_simp)) | (go_ite <;> go_prune <;> (try go_simp)) | (split <;> (first | (rename_i hx; exact (hx _ rfl).elim) | go_prune)))
    go_ret
    exact ⟨rfl, HR3.out, (by repeat (first | (with_reducible exact Upon.refl _ _) | ((with_reducible refine Upon.setAt ?_ ?_ _); (rotate_left; focus (first | exact Or.inl rfl | omega | (simp; done) | (simp; omega)))) | (with_reducible refine Upon.alloc ?_ _) | (with_reducible refine Upon.drewN ?_ _) | (with_reducible refine Upon.drew ?_) | (with_reducible refine Upon.trans ?_ hu3) | (with_reducible refine Upon.trans ?_ hu2) | (with_reducible refine Upon.trans ?_ (Upon.of_below hb1))))⟩
  · by_cases h2 : hi < yn
    · rw [if_pos (.inr h2)] at hS
      subst hS
      have h1' : lo ≤ yn := by omega
      clear h1
      go_enter Try.func49, Try.ntmps49
      repeat' (first | (go_at_call 58; refine (seesNumber_any (Rd.below HR.out ?_) HX.out).mono ?_; exact (by repeat (first | (with_reducible exact Below.refl _ _) | ((with_reducible refine below_setAt ?_ ?_ _); (rotate_left; focus (first | omega | (simp; done) | (simp; omega)))) | ((with_reducible refine Below.alloc ?_ ?_ _); (rotate_left; focus (first | omega | (simp; done) | (simp; omega)))) | (with_reducible refine below_drewN ?_ _) | (with_reducible refine Below.drew ?_))); rintro e w1 ⟨rfl, hb1⟩) | (go_at_call 43; refine (need_any (Rd.below HR.out ?_) _ HY.out).mono ?_; exact (by repeat (first | (with_reducible exact Below.refl _ _) | ((with_reducible refine below_setAt ?_ ?_ _); (rotate_left; focus (first | omega | (simp; done) | (simp; omega)))) | ((with_reducible refine Below.alloc ?_ ?_ _); (rotate_left; focus (first | omega | (simp; done) | (simp; omega)))) | (with_reducible refine below_drewN ?_ _) | (with_reducible refine Below.drew ?_) | ((with_reducible refine Below.trans ?_ (Below.mono hb1 ?_)); (rotate_left; focus (first | omega | (simp; done) | (simp; omega)))))); rintro e w2 ⟨rfl, hR2, hu2⟩; have HR2 := Lib.hid hR2; have hr2 := hR2.lt; clear hR2) | (go_at_call 36; refine (fail_any (Rd.below HR2.out ?_) _ _).mono ?_; exact (by repeat (first | (with_reducible exact Below.refl _ _) | ((with_reducible refine below_setAt ?_ ?_ _); (rotate_left; focus (first | omega | (simp; done) | (simp; omega)))) | ((with_reducible refine Below.alloc ?_ ?_ _); (rotate_left; focus (first | omega | (simp; done) | (simp; omega)))) | (with_reducible refine below_drewN ?_ _) | (with_reducible refine Below.drew ?_))); rintro e w3 ⟨rfl, hR3, hu3⟩; have HR3 := Lib.hid hR3; clear hR3; obtain ⟨hc3, hf3⟩ := ucell hu3; have a3 : w2.heap.size < w3.heap.size := Nat.lt_of_lt_of_le (by first | omega | (simp; done) | (simp; omega)) hu3.size; have hne : ¬ w2.heap.size = r := (by omega)) | go_values | go_skip | go_guarded | go_step | go_upon | (simp only [Int.not_lt, Int.not_le] at *; go_simp) | (go_values <;> (try go_simp)) | (go_ite <;> go_prune <;> (try go_simp)) | (split <;> (first | (rename_i hx; exact (hx _ rfl).elim) | go_prune)))
      go_ret
      exact ⟨rfl, HR3.out, (by repeat (first | (with_reducible exact Upon.refl _ _) | ((with_reducible refine Upon.setAt ?_ ?_ _); (rotate_left; focus (first | exact Or.inl rfl | omega | (simp; done) | (simp; omega)))) | (with_reducible refine Upon.alloc ?_ _) | (with_reducible refine Upon.drewN ?_ _) | (with_reducible refine Upon.drew ?_) | (with_reducible refine Upon.trans ?_ hu3) | (with_reducible refine Upon.trans ?_ hu2) | (with_reducible refine Upon.trans ?_ (Upon.of_below hb1))))⟩
    · rw [if_neg (by omega)] at hS
      subst hS
      have h1' : lo ≤ yn := by omega
      have h2' : yn ≤ hi := by omega
      clear h1 h2
      go_enter Try.func49, Try.ntmps49
      repeat' (first | (go_at_call 58; refine (seesNumber_any (Rd.below HR.out ?_) HX.out).mono ?_; exact (by repeat (first | (with_reducible exact Below.refl _ _) | ((with_reducible refine below_setAt ?_ ?_ _); (rotate_left; focus (first | omega | (simp; done) | (simp; omega)))) | ((with_reducible refine Below.alloc ?_ ?_ _); (rotate_left; focus (first | omega | (simp; done) | (simp; omega)))) | (with_reducible refine below_drewN ?_ _) | (with_reducible refine Below.drew ?_))); rintro e w1 ⟨rfl, hb1⟩) | (go_at_call 43; refine (need_any (Rd.below HR.out ?_) _ HY.out).mono ?_; exact (by repeat (first | (with_reducible exact Below.refl _ _) | ((with_reducible refine below_setAt ?_ ?_ _); (rotate_left; focus (first | omega | (simp; done) | (simp; omega)))) | ((with_reducible refine Below.alloc ?_ ?_ _); (rotate_left; focus (first | omega | (simp; done) | (simp; omega)))) | (with_reducible refine below_drewN ?_ _) | (with_reducible refine Below.drew ?_) | ((with_reducible refine Below.trans ?_ (Below.mono hb1 ?_)); (rotate_left; focus (first | omega | (simp; done) | (simp; omega)))))); rintro e w2 ⟨rfl, hR2, hu2⟩; have HR2 := Lib.hid hR2; have hr2 := hR2.lt; clear hR2) | go_values | go_skip | go_guarded | go_step | go_upon | (simp only [Int.not_lt, Int.not_le] at *; go_simp) | (go_values <;> (try go_simp)) | (go_ite <;> go_prune <;> (try go_simp)) | (split <;> (first | (rename_i hx; exact (hx _ rfl).elim) | go_prune)))
      go_ret
      exact ⟨rfl, Rd.below HR2.out (by repeat (first | (with_reducible exact Below.refl _ _) | ((with_reducible refine below_setAt ?_ ?_ _); (rotate_left; focus (first | omega | (simp; done) | (simp; omega)))) | ((with_reducible refine Below.alloc ?_ ?_ _); (rotate_left; focus (first | omega | (simp; done) | (simp; omega)))) | (with_reducible refine below_drewN ?_ _) | (with_reducible refine Below.drew ?_))), (by repeat (first | (with_reducible exact Upon.refl _ _) | ((with_reducible refine Upon.setAt ?_ ?_ _); (rotate_left; focus (first | exact Or.inl rfl | omega | (simp; done) | (simp; omega)))) | (with_reducible refine Upon.alloc ?_ _) | (with_reducible refine Upon.drewN ?_ _) | (with_reducible refine Upon.drew ?_) | (with_reducible refine Upon.trans ?_ hu2) | (with_reducible refine Upon.trans ?_ (Upon.of_below hb1))))⟩

theorem signed_any {w : World} {r : Nat} {en : Int} {S : St} (h : Rd w r en S) {n : Int} {S' : St} (hy : S.signed en = (n, S')) :
    Calls Try.prog 75 #[.pointer (some ⟨r, 0, none⟩)] w fun e w' => e = .returned (.int .i64 n) ∧ Rd w' r en S' ∧ Upon r w w' := by
  have HR := Lib.hid h
  have hr := h.lt
  cases hb : seesP en [minus] S with
  | true =>
    obtain ⟨xk, xt, xn, xa, hx⟩ : ∃ xk xt xn xa, S.next.peek en = ⟨xk, xt, xn, xa⟩ := ⟨_, _, _, _, rfl⟩
    have HX := Lib.hid hx
    obtain ⟨yk, yt, yn, ya, S1, hs⟩ : ∃ yk yt yn ya S1, S.next.need en (xk == 2) = (⟨yk, yt, yn, ya⟩, S1) := ⟨_, _, _, _, _, rfl⟩
    have HY := Lib.hid hs
    obtain ⟨rfl, rfl⟩ : wrap64 (-yn) = n ∧ S1 = S' := by
      unfold St.signed St.num at hy
      rw [if_pos hb, hx] at hy
      simp only [hs] at hy
      exact ⟨congrArg Prod.fst hy, congrArg Prod.snd hy⟩
    have HT := Lib.hid (show S.take en minus = (true, S.next) by unfold St.take; rw [hb]; rfl)
    have F := field_n yk yn ya yt
    clear hy hs hx h hb
    go_enter Try.func75, Try.ntmps75
    repeat' (first | (go_at_call 57; refine (take_any HR.out _ HT.out).mono ?_; rintro e w0 ⟨rfl, hR0, hu0⟩; have HR0 := Lib.hid hR0; have hr0 := hR0.lt; clear hR0) | (go_at_call 58; refine (seesNumber_any (Rd.below HR0.out ?_) HX.out).mono ?_; exact (by repeat (first | (with_reducible exact Below.refl _ _) | ((with_reducible refine below_setAt ?_ ?_ _); (rotate_left; focus (first | omega | (simp; done) | (simp; omega)))) | ((with_reducible refine Below.alloc ?_ ?_ _); (rotate_left; focus (first | omega | (simp; done) | (simp; omega)))) | (with_reducible refine below_drewN ?_ _) | (with_reducible refine Below.drew ?_))); rintro e w1 ⟨rfl, hb1⟩) | (go_at_call 43; refine (need_any (Rd.below HR0.out ?_) _ HY.out).mono ?_; exact (by repeat (first | (with_reducible exact Below.refl _ _) | ((with_reducible refine below_setAt ?_ ?_ _); (rotate_left; focus (first | omega | (simp; done) | (simp; omega)))) | ((with_reducible refine Below.alloc ?_ ?_ _); (rotate_left; focus (first | omega | (simp; done) | (simp; omega)))) | (with_reducible refine below_drewN ?_ _) | (with_reducible refine Below.drew ?_) | ((with_reducible refine Below.trans ?_ (Below.mono hb1 ?_)); (rotate_left; focus (first | omega | (simp; done) | (simp; omega)))))); rintro e w2 ⟨rfl, hR2, hu2⟩; have HR2 := Lib.hid hR2; clear hR2) | go_values | go_skip | go_guarded | go_step | go_upon | (simp only [Int.not_lt, Int.not_le] at *; go_simp) | (go_values <;> (try go_simp)) | (go_ite <;> go_prune <;> (try go_simp)) | (split <;> (first | (rename_i hx; exact (hx _ rfl).elim) | go_prune)))
    go_ret
    exact ⟨rfl, HR2.out, (by repeat (first | (with_reducible exact Upon.refl _ _) | ((with_reducible refine Upon.setAt ?_ ?_ _); (rotate_left; focus (first | exact Or.inl rfl | omega | (simp; done) | (simp; omega)))) | (with_reducible refine Upon.alloc ?_ _) | (with_reducible refine Upon.drewN ?_ _) | (with_reducible refine Upon.drew ?_) | (with_reducible refine Upon.trans ?_ hu2) | (with_reducible refine Upon.trans ?_ (Upon.of_below hb1)) | (with_reducible refine Upon.trans ?_ hu0)))⟩
  | false =>
    obtain ⟨xk, xt, xn, xa, hx⟩ : ∃ xk xt xn xa, S.peek en = ⟨xk, xt, xn, xa⟩ := ⟨_, _, _, _, rfl⟩
    have HX := Lib.hid hx
    obtain ⟨yk, yt, yn, ya, S1, hs⟩ : ∃ yk yt yn ya S1, S.need en (xk == 2) = (⟨yk, yt, yn, ya⟩, S1) := ⟨_, _, _, _, _, rfl⟩
    have HY := Lib.hid hs
    obtain ⟨rfl, rfl⟩ : yn = n ∧ S1 = S' := by
      unfold St.signed St.num at hy
      rw [if_neg (by rw [hb]; decide), hx] at hy
      simp only [hs] at hy
      exact ⟨congrArg Prod.fst hy, congrArg Prod.snd hy⟩
    have HT := Lib.hid (show S.take en minus = (false, S) by unfold St.take; rw [hb]; rfl)
    have F := field_n yk yn ya yt
    clear hy hs hx h hb
    go_enter Try.func75, Try.ntmps75
    repeat' (first | (go_at_call 57; refine (take_any HR.out _ HT.out).mono ?_; rintro e w0 ⟨rfl, hR0, hu0⟩; have HR0 := Lib.hid hR0; have hr0 := hR0.lt; clear hR0) | (go_at_call 58; refine (seesNumber_any (Rd.below HR0.out ?_) HX.out).mono ?_; exact (by repeat (first | (with_reducible exact Below.refl _ _) | ((with_reducible refine below_setAt ?_ ?_ _); (rotate_left; focus (first | omega | (simp; done) | (simp; omega)))) | ((with_reducible refine Below.alloc ?_ ?_ _); (rotate_left; focus (first | omega | (simp; done) | (simp; omega)))) | (with_reducible refine below_drewN ?_ _) | (with_reducible refine Below.drew ?_))); rintro e w1 ⟨rfl, hb1⟩) | (go_at_call 43; refine (need_any (Rd.below HR0.out ?_) _ HY.out).mono ?_; exact (by repeat (first | (with_reducible exact Below.refl _ _) | ((with_reducible refine below_setAt ?_ ?_ _); (rotate_left; focus (first | omega | (simp; done) | (simp; omega)))) | ((with_reducible refine Below.alloc ?_ ?_ _); (rotate_left; focus (first | omega | (simp; done) | (simp; omega)))) | (with_reducible refine below_drewN ?_ _) | (with_reducible refine Below.drew ?_) | ((with_reducible refine Below.trans ?_ (Below.mono hb1 ?_)); (rotate_left; focus (first | omega | (simp; done) | (simp; omega)))))); rintro e w2 ⟨rfl, hR2, hu2⟩; have HR2 := Lib.hid hR2; clear hR2) | go_values | go_skip | go_guarded | go_step | go_upon | (simp only [Int.not_lt, Int.not_le] at *; go_simp) | (go_values <;> (try go_simp)) | (go_ite <;> go_prune <;> (try go_simp)) | (split <;> (first | (rename_i hx; exact (hx _ rfl).elim) | go_prune)))
    go_ret
    exact ⟨rfl, HR2.out, (by repeat (first | (with_reducible exact Upon.refl _ _) | ((with_reducible refine Upon.setAt ?_ ?_ _); (rotate_left; focus (first | exact Or.inl rfl | omega | (simp; done) | (simp; omega)))) | (with_reducible refine Upon.alloc ?_ _) | (with_reducible refine Upon.drewN ?_ _) | (with_reducible refine Upon.drew ?_) | (with_reducible refine Upon.trans ?_ hu2) | (with_reducible refine Upon.trans ?_ (Upon.of_below hb1)) | (with_reducible refine Upon.trans ?_ hu0)))⟩

end Go.Proofs.Ytlpoimagikolfaa.syn
