/-
  Parts of the proof: Apply, Apply2, ApplyA.
-/
import Derived.Test.YtpjficjlfibibaaGreatDoorQ06
namespace Go.Proofs.YtpjficjlfibibaaGreatDoor.clock
open Go.RowKit
set_option linter.unusedVariables false
def facB (k n d:Int):Bool:=decide ((k = 3 ∨ k = 4 → 1 ≤ n ∧ n ≤ 100) ∧ (k = 5 → 1 ≤ d ∧ d ≤ 100 ∧ 0 ≤ n ∧ n ≤ 100))
theorem fac_yes {k n d:Int} (h:(k = 3 ∨ k = 4 → 1 ≤ n ∧ n ≤ 100) ∧ (k = 5 → 1 ≤ d ∧ d ≤ 100 ∧ 0 ≤ n ∧ n ≤ 100)):facB k n d = true:=by unfold facB;exact decide_eq_true h
theorem fac_no {k n d:Int} (h:¬ ((k = 3 ∨ k = 4 → 1 ≤ n ∧ n ≤ 100) ∧ (k = 5 → 1 ≤ d ∧ d ≤ 100 ∧ 0 ≤ n ∧ n ≤ 100))):facB k n d = false:=by
 unfold facB;exact decide_eq_false h
theorem box1 {w:World} (o:Obj):Below w.heap.size w (w.alloc o):=(Below.refl _ _).alloc (Nat.le_refl _) _
theorem fits_34 (k n d:Int) (w:World) (hk:k = 3 ∨ k = 4) :
  Calls Tryz.prog 154 #[.agg #[.int .i64 k,.int .i64 n,.int .i64 d]] w fun e w' => e = .returned (.bool (wthB n 1 100)) ∧ Below w.heap.size w w':=by
 rcases hk with rfl | rfl
 all_goals
  go_enter Tryz.func154,Tryz.ntmps154
  go_wp2_with (go_at_call 55;refine (within_any _ _ _ _).mono ?_;rintro e w' ⟨rfl,rfl⟩)
  go_ret
  exact ⟨rfl,box1 _⟩
theorem fits_5 (n d:Int) (w:World) (h:1 ≤ d ∧ d ≤ 100) :
  Calls Tryz.prog 154 #[.agg #[.int .i64 5,.int .i64 n,.int .i64 d]] w fun e w' => e = .returned (.bool (wthB n 0 100)) ∧ Below w.heap.size w w':=by
 have HD:=Lib.hid (fun w => within_yes d 1 100 w h.1 h.2)
 clear h
 go_enter Tryz.func154,Tryz.ntmps154
 go_wp2_with (first | (go_at_call 55;with_reducible refine (HD.out _).mono ?_;rintro e w' ⟨rfl,rfl⟩) | (go_at_call 55;refine (within_any _ _ _ _).mono ?_;rintro e w' ⟨rfl,rfl⟩))
 go_ret
 exact ⟨rfl,box1 _⟩
theorem fits_5no (n d:Int) (w:World) (h:d < 1 ∨ 100 < d) :
  Calls Tryz.prog 154 #[.agg #[.int .i64 5,.int .i64 n,.int .i64 d]] w fun e w' => e = .returned (.bool false) ∧ Below w.heap.size w w':=by
 have HD:=Lib.hid (fun w => within_no d 1 100 w h)
 clear h
 go_enter Tryz.func154,Tryz.ntmps154
 go_wp2_with (first | (go_at_call 55;with_reducible refine (HD.out _).mono ?_;rintro e w' ⟨rfl,rfl⟩))
 go_ret
 exact ⟨rfl,box1 _⟩
theorem fits_678 (k n d:Int) (w:World) (hk:k = 6 ∨ k = 7 ∨ k = 8) :
  Calls Tryz.prog 154 #[.agg #[.int .i64 k,.int .i64 n,.int .i64 d]] w fun e w' => e = .returned (.bool true) ∧ Below w.heap.size w w':=by
 rcases hk with rfl | rfl | rfl
 all_goals
  go_enter Tryz.func154,Tryz.ntmps154
  go_wp2
  go_ret
  exact ⟨rfl,box1 _⟩
theorem fits_any (k n d:Int) (w:World) (hk:3 ≤ k ∧ k ≤ 8) :
  Calls Tryz.prog 154 #[.agg #[.int .i64 k,.int .i64 n,.int .i64 d]] w fun e w' => e = .returned (.bool (facB k n d)) ∧ Below w.heap.size w w':=by
 by_cases h34:k = 3 ∨ k = 4
 ·have H:=fits_34 k n d w h34
  by_cases hn:1 ≤ n ∧ n ≤ 100
  ·rw [wth_yes hn.1 hn.2] at H;rw [fac_yes (by omega)];exact H
  ·rw [wth_no (by omega)] at H;rw [fac_no (by omega)];exact H
 ·by_cases h5:k = 5
  ·subst h5
   by_cases hd:1 ≤ d ∧ d ≤ 100
   ·have H:=fits_5 n d w hd
    by_cases hn:0 ≤ n ∧ n ≤ 100
    ·rw [wth_yes hn.1 hn.2] at H;rw [fac_yes (by omega)];exact H
    ·rw [wth_no (by omega)] at H;rw [fac_no (by omega)];exact H
   ·rw [fac_no (by omega)];exact fits_5no n d w (by omega)
  ·rw [fac_yes (by omega)];exact fits_678 k n d w (by omega)
theorem mul_bd {p n:Int} (h1:0 ≤ p) (h2:p ≤ 2000) (h3:-1 ≤ n) (h4:n ≤ 100):-2000 ≤ p * n ∧ p * n ≤ 200000:=by
 have a:p * n ≤ p * 100:=Int.mul_le_mul_of_nonneg_left h4 h1
 have b:p * (-1) ≤ p * n:=Int.mul_le_mul_of_nonneg_left h3 h1
 omega
theorem quo_bd {x d:Int} (h1:-2000 ≤ x) (h2:x ≤ 200000) (hd:1 ≤ d):-2000 ≤ x / d ∧ x / d ≤ 200000:=by
 have:=plain.ediv_le x d hd
 by_cases h:0 ≤ x
 ·have:=this.1 h;omega
 ·have:=this.2 (by omega);omega
theorem part_any (p n d:Int) (w:World) (h1:0 ≤ p) (h2:p ≤ 2000) (h3:-1 ≤ n) (h4:n ≤ 100) (h5:1 ≤ d) (h6:d ≤ 9223372036854775807) :
  Calls Tryz.prog 181 #[.int .i64 p,.int .i64 n,.int .i64 d] w fun e w' => e = .returned (.tuple #[.int .i64 (p * n / d),.bool (p * n % d == 0)]) ∧ ∃ m,w' = w.drewN m:=by
 have hm:=mul_bd h1 h2 h3 h4
 have v1:wrap64 (p * n) = p * n:=IntWalk.wrap64_in _ (by omega)
 have HF:=Lib.hid (fun w => arith.floor_pos (p * n) d w h5 (by omega) (by omega) h6)
 go_enter Tryz.func181,Tryz.ntmps181
 go_wp2_with (go_at_call 195;refine (HF.out _).mono ?_;rintro e w' ⟨rfl,m1,rfl⟩)
 go_ret2
 exact ⟨rfl,_,rfl⟩
def shB (p f n d:Int):Bool:=decide (p * n % d = 0 ∧ 0 ≤ f + p * n / d)
theorem shift_any (p f n d:Int) (w:World) (h1:0 ≤ p) (h2:p ≤ 2000) (f1:0 ≤ f) (f2:f ≤ 2000) (h3:-1 ≤ n) (h4:n ≤ 100) (h5:1 ≤ d) (h6:d ≤ 100) :
  Calls Tryz.prog 182 #[.agg #[.int .i64 p,.int .i64 f],.int .i64 n,.int .i64 d] w fun e w' =>
   e = .returned (.tuple #[.agg #[.int .i64 p,.int .i64 (f + p * n / d)],.bool (shB p f n d)]) ∧ Below w.heap.size w w':=by
 have hm:=mul_bd h1 h2 h3 h4
 have hq:=quo_bd hm.1 hm.2 h5
 have q1:=hq.1
 have q2:=hq.2
 have HP:=Lib.hid (fun w => part_any p n d w h1 h2 h3 h4 h5 (by omega))
 clear hm hq
 by_cases hz:p * n % d = 0
 ·have z:(p * n % d == 0) = true:=by simpa using hz
  by_cases hp:0 ≤ f + p * n / d
  ·have E:Hid (shB p f n d = true):=by unfold shB;exact decide_eq_true ⟨hz,hp⟩
   clear hz
   go_enter Tryz.func182,Tryz.ntmps182
   go_wp2_with (go_at_call 181;refine (HP.out _).mono ?_;rintro e w' ⟨rfl,m1,rfl⟩)
   exact bodyPost_ret (v:=.tuple #[.agg #[.int .i64 p,.int .i64 (f + p * n / d)],.bool true]) (by simp [results,Tryz.results182,go_sem] <;> omega) rfl ⟨by rw [E.out],(by repeat (first | exact Below.refl _ _ | (refine Below.setCell ?_ (by first | (simp;done) | (simp;omega)) _) | (refine Below.alloc ?_ (by first | (simp;done) | (simp;omega)) _) | (refine arith.below_drewN ?_ _)))⟩
  ·have E:Hid (shB p f n d = false):=by unfold shB;exact decide_eq_false (fun h => hp h.2)
   clear hz
   have hp':f + p * n / d < 0:=by omega
   clear hp
   go_enter Tryz.func182,Tryz.ntmps182
   go_wp2_with (go_at_call 181;refine (HP.out _).mono ?_;rintro e w' ⟨rfl,m1,rfl⟩)
   exact bodyPost_ret (v:=.tuple #[.agg #[.int .i64 p,.int .i64 (f + p * n / d)],.bool false]) (by simp [results,Tryz.results182,go_sem] <;> omega) rfl ⟨by rw [E.out],(by repeat (first | exact Below.refl _ _ | (refine Below.setCell ?_ (by first | (simp;done) | (simp;omega)) _) | (refine Below.alloc ?_ (by first | (simp;done) | (simp;omega)) _) | (refine arith.below_drewN ?_ _)))⟩
 ·have z:(p * n % d == 0) = false:=by simpa using hz
  have E:Hid (shB p f n d = false):=by unfold shB;exact decide_eq_false (fun h => hz h.1)
  clear hz
  go_enter Tryz.func182,Tryz.ntmps182
  go_wp2_with (go_at_call 181;refine (HP.out _).mono ?_;rintro e w' ⟨rfl,m1,rfl⟩)
  exact bodyPost_ret (v:=.tuple #[.agg #[.int .i64 p,.int .i64 (f + p * n / d)],.bool false]) (by simp [results,Tryz.results182,go_sem] <;> omega) rfl ⟨by rw [E.out],(by repeat (first | exact Below.refl _ _ | (refine Below.setCell ?_ (by first | (simp;done) | (simp;omega)) _) | (refine Below.alloc ?_ (by first | (simp;done) | (simp;omega)) _) | (refine arith.below_drewN ?_ _)))⟩
theorem change_over (p f n d:Int) (w:World) (h1:0 ≤ p) (h2:p ≤ 2000) (f1:0 ≤ f) (f2:f ≤ 2000) (h3:1 ≤ n) (h4:n ≤ 100) :
  Calls Tryz.prog 155 #[.agg #[.int .i64 p,.int .i64 f],.agg #[.int .i64 3,.int .i64 n,.int .i64 d]] w fun e w' =>
   e = .returned (.tuple #[.agg #[.int .i64 (p / n),.int .i64 f],.bool (p % n == 0)]) ∧ Below w.heap.size w w':=by
 have HP:=Lib.hid (fun w => part_any p 1 n w h1 h2 (by omega) (by omega) h3 (by omega))
 have e1:p * 1 = p:=by omega
 rw [e1] at HP
 clear e1
 go_enter Tryz.func155,Tryz.ntmps155
 go_wp2_with (go_at_call 181;refine (HP.out _).mono ?_;rintro e w' ⟨rfl,m1,rfl⟩)
 exact bodyPost_ret (v:=.tuple #[.agg #[.int .i64 (p / n),.int .i64 f],.bool (p % n == 0)]) (by simp [results,Tryz.results155,go_sem]) rfl ⟨rfl,(by repeat (first | exact Below.refl _ _ | (refine Below.setCell ?_ (by first | (simp;done) | (simp;omega)) _) | (refine Below.alloc ?_ (by first | (simp;done) | (simp;omega)) _) | (refine arith.below_drewN ?_ _)))⟩
theorem change_under (p f n d:Int) (w:World) (h1:0 ≤ p) (h2:p ≤ 2000) (f1:0 ≤ f) (f2:f ≤ 2000) (h3:1 ≤ n) (h4:n ≤ 100) :
  Calls Tryz.prog 155 #[.agg #[.int .i64 p,.int .i64 f],.agg #[.int .i64 4,.int .i64 n,.int .i64 d]] w fun e w' =>
   e = .returned (.tuple #[.agg #[.int .i64 (p * n),.int .i64 f],.bool true]) ∧ Below w.heap.size w w':=by
 have HP:=Lib.hid (fun w => part_any p n 1 w h1 h2 (by omega) (by omega) (by omega) (by omega))
 have e1:p * n / 1 = p * n:=by omega
 have e2:(p * n % 1 == 0) = true:=by simp
 rw [e1,e2] at HP
 clear e1 e2
 go_enter Tryz.func155,Tryz.ntmps155
 go_wp2_with (go_at_call 181;refine (HP.out _).mono ?_;rintro e w' ⟨rfl,m1,rfl⟩)
 exact bodyPost_ret (v:=.tuple #[.agg #[.int .i64 (p * n),.int .i64 f],.bool true]) (by simp [results,Tryz.results155,go_sem]) rfl ⟨rfl,(by repeat (first | exact Below.refl _ _ | (refine Below.setCell ?_ (by first | (simp;done) | (simp;omega)) _) | (refine Below.alloc ?_ (by first | (simp;done) | (simp;omega)) _) | (refine arith.below_drewN ?_ _)))⟩
theorem change_shift (p f n d:Int) (w:World) (h1:0 ≤ p) (h2:p ≤ 2000) (f1:0 ≤ f) (f2:f ≤ 2000) (h3:0 ≤ n) (h4:n ≤ 100) (h5:1 ≤ d) (h6:d ≤ 100) :
  Calls Tryz.prog 155 #[.agg #[.int .i64 p,.int .i64 f],.agg #[.int .i64 5,.int .i64 n,.int .i64 d]] w fun e w' =>
   e = .returned (.tuple #[.agg #[.int .i64 p,.int .i64 (f + p * n / d)],.bool (p * n % d == 0)]) ∧ Below w.heap.size w w':=by
 have hs:shB p f n d = (p * n % d == 0):=by
  have hm:=Int.mul_nonneg h1 h3
  have hq:=Int.ediv_nonneg hm (show 0 ≤ d by omega)
  unfold shB
  by_cases hz:p * n % d = 0
  ·rw [decide_eq_true ⟨hz,by omega⟩];simp [hz]
  ·rw [decide_eq_false (fun h => hz h.1)];simp [hz]
 have HP:=Lib.hid (fun w => shift_any p f n d w h1 h2 f1 f2 (by omega) h4 h5 h6)
 rw [hs] at HP
 clear hs
 go_enter Tryz.func155,Tryz.ntmps155
 go_wp2_with (go_at_call 182;refine (HP.out _).mono ?_;rintro e w1 ⟨rfl,hb⟩;obtain ⟨hc,hf⟩:=arith.bcell hb)
 exact bodyPost_ret (v:=.tuple #[.agg #[.int .i64 p,.int .i64 (f + p * n / d)],.bool (p * n % d == 0)]) (by simp [results,Tryz.results155,go_sem,hc]) rfl ⟨rfl,(by repeat (first | exact Below.refl _ _ | (refine Below.setCell ?_ (by first | (simp;done) | (simp;omega)) _) | (refine Below.alloc ?_ (by first | (simp;done) | (simp;omega)) _) | (refine arith.below_drewN ?_ _) | (refine Below.trans ?_ (hb.mono (by first | (simp;done) | (simp;omega))))))⟩
theorem change_fby (p f n d:Int) (w:World) :
  Calls Tryz.prog 155 #[.agg #[.int .i64 p,.int .i64 f],.agg #[.int .i64 6,.int .i64 n,.int .i64 d]] w fun e w' =>
   e = .returned (.tuple #[.agg #[.int .i64 p,.int .i64 f],.bool true]) ∧ Below w.heap.size w w':=by
 go_enter Tryz.func155,Tryz.ntmps155
 go_wp2
 exact bodyPost_ret (v:=.tuple #[.agg #[.int .i64 p,.int .i64 f],.bool true]) (by simp [results,Tryz.results155,go_sem]) rfl ⟨rfl,(by repeat (first | exact Below.refl _ _ | (refine Below.setCell ?_ (by first | (simp;done) | (simp;omega)) _) | (refine Below.alloc ?_ (by first | (simp;done) | (simp;omega)) _) | (refine arith.below_drewN ?_ _)))⟩
theorem change_tail (p f n d:Int) (w:World) (h1:0 ≤ p) (h2:p ≤ 2000) (f1:0 ≤ f) (f2:f ≤ 2000) :
  Calls Tryz.prog 155 #[.agg #[.int .i64 p,.int .i64 f],.agg #[.int .i64 7,.int .i64 n,.int .i64 d]] w fun e w' =>
   e = .returned (.tuple #[.agg #[.int .i64 p,.int .i64 (f + p)],.bool true]) ∧ Below w.heap.size w w':=by
 have hs:shB p f 1 1 = true:=by unfold shB;exact decide_eq_true ⟨by omega,by omega⟩
 have e1:p * 1 / 1 = p:=by omega
 have HP:=Lib.hid (fun w => shift_any p f 1 1 w h1 h2 f1 f2 (by omega) (by omega) (by omega) (by omega))
 rw [hs,e1] at HP
 clear hs e1
 go_enter Tryz.func155,Tryz.ntmps155
 go_wp2_with (go_at_call 182;refine (HP.out _).mono ?_;rintro e w1 ⟨rfl,hb⟩;obtain ⟨hc,hf⟩:=arith.bcell hb)
 exact bodyPost_ret (v:=.tuple #[.agg #[.int .i64 p,.int .i64 (f + p)],.bool true]) (by simp [results,Tryz.results155,go_sem,hc]) rfl ⟨rfl,(by repeat (first | exact Below.refl _ _ | (refine Below.setCell ?_ (by first | (simp;done) | (simp;omega)) _) | (refine Below.alloc ?_ (by first | (simp;done) | (simp;omega)) _) | (refine arith.below_drewN ?_ _) | (refine Below.trans ?_ (hb.mono (by first | (simp;done) | (simp;omega))))))⟩
theorem change_cons (p f n d:Int) (w:World) (h1:0 ≤ p) (h2:p ≤ 2000) (f1:0 ≤ f) (f2:f ≤ 2000) :
  Calls Tryz.prog 155 #[.agg #[.int .i64 p,.int .i64 f],.agg #[.int .i64 8,.int .i64 n,.int .i64 d]] w fun e w' =>
   e = .returned (.tuple #[.agg #[.int .i64 p,.int .i64 (f - p)],.bool (decide (p ≤ f))]) ∧ Below w.heap.size w w':=by
 have hs:shB p f (-1) 1 = decide (p ≤ f):=by
  unfold shB
  by_cases h:p ≤ f
  ·rw [decide_eq_true h];exact decide_eq_true ⟨by omega,by omega⟩
  ·rw [decide_eq_false h];exact decide_eq_false (by omega)
 have e1:f + p * -1 / 1 = f - p:=by omega
 have HP:=Lib.hid (fun w => shift_any p f (-1) 1 w h1 h2 f1 f2 (by omega) (by omega) (by omega) (by omega))
 rw [hs,e1] at HP
 clear hs e1
 go_enter Tryz.func155,Tryz.ntmps155
 go_wp2_with (go_at_call 182;refine (HP.out _).mono ?_;rintro e w1 ⟨rfl,hb⟩;obtain ⟨hc,hf⟩:=arith.bcell hb)
 exact bodyPost_ret (v:=.tuple #[.agg #[.int .i64 p,.int .i64 (f - p)],.bool (decide (p ≤ f))]) (by simp [results,Tryz.results155,go_sem,hc]) rfl ⟨rfl,(by repeat (first | exact Below.refl _ _ | (refine Below.setCell ?_ (by first | (simp;done) | (simp;omega)) _) | (refine Below.alloc ?_ (by first | (simp;done) | (simp;omega)) _) | (refine arith.below_drewN ?_ _) | (refine Below.trans ?_ (hb.mono (by first | (simp;done) | (simp;omega))))))⟩
def ansC (p f e:Int):Value:=.tuple #[.agg #[.int .i64 p,.int .i64 f],.int .i64 e]
theorem sz_of {B k:Nat} {a w:World} (h:Below B a w) (hk:k < a.heap.size):k < w.heap.size:=Nat.lt_of_lt_of_le hk h.size
theorem apply_wrong (p f k n d:Int) (w:World) (h:¬ (1 ≤ p ∧ p ≤ 2000 ∧ 0 ≤ f ∧ f ≤ 2000)) :
  Calls Tryz.prog 124 #[.agg #[.int .i64 p,.int .i64 f],.agg #[.int .i64 k,.int .i64 n,.int .i64 d]] w fun e w' => e = .returned (ansC 0 0 12) ∧ Below w.heap.size w w':=by
 have HR:=Lib.hid (fun w => right_false p f w h)
 clear h
 go_enter Tryz.func124,Tryz.ntmps124
 go_wp2_with (go_at_call 24;(with_reducible refine (HR.out _).mono ?_);rintro e w1 ⟨rfl,hb1⟩;obtain ⟨hc1,hf1⟩:=arith.bcell hb1;have ha1:w.heap.size < w1.heap.size:=sz_of hb1 (by first | (simp;done) | (simp;omega));have hy1:w.heap.size + 1 < w1.heap.size:=sz_of hb1 (by first | (simp;done) | (simp;omega));have hx1:w.heap.size + 1 + 1 < w1.heap.size:=sz_of hb1 (by simp))
 exact bodyPost_ret (v:=.tuple #[.agg #[.int .i64 0,.int .i64 0],.int .i64 12]) (by simp only [results,Tryz.results124];go_simp) rfl ⟨rfl,(by repeat (first | exact Below.refl _ _ | (refine Below.setCell ?_ (by first | omega | (simp;done) | (simp;omega)) _) | (refine Below.alloc ?_ (by first | omega | (simp;done) | (simp;omega)) _) | (refine arith.below_drewN ?_ _) | (refine Below.trans ?_ (hb1.mono (by first | omega | (simp;done) | (simp;omega))))))⟩
theorem apply_kind (p f k n d:Int) (w:World) (h:1 ≤ p ∧ p ≤ 2000 ∧ 0 ≤ f ∧ f ≤ 2000) (hk:k < 3 ∨ 8 < k) :
  Calls Tryz.prog 124 #[.agg #[.int .i64 p,.int .i64 f],.agg #[.int .i64 k,.int .i64 n,.int .i64 d]] w fun e w' => e = .returned (ansC 0 0 12) ∧ Below w.heap.size w w':=by
 have HR:=Lib.hid (fun w => right_true p f w h)
 clear h
 rcases hk with hk | hk
 all_goals
  go_enter Tryz.func124,Tryz.ntmps124
  go_wp2_with (go_at_call 24;(with_reducible refine (HR.out _).mono ?_);rintro e w1 ⟨rfl,hb1⟩;obtain ⟨hc1,hf1⟩:=arith.bcell hb1;have ha1:w.heap.size < w1.heap.size:=sz_of hb1 (by first | (simp;done) | (simp;omega));have hy1:w.heap.size + 1 < w1.heap.size:=sz_of hb1 (by first | (simp;done) | (simp;omega));have hx1:w.heap.size + 1 + 1 < w1.heap.size:=sz_of hb1 (by simp))
  all_goals exact bodyPost_ret (v:=.tuple #[.agg #[.int .i64 0,.int .i64 0],.int .i64 12]) (by simp only [results,Tryz.results124];go_simp) rfl ⟨rfl,(by repeat (first | exact Below.refl _ _ | (refine Below.setCell ?_ (by first | omega | (simp;done) | (simp;omega)) _) | (refine Below.alloc ?_ (by first | omega | (simp;done) | (simp;omega)) _) | (refine arith.below_drewN ?_ _) | (refine Below.trans ?_ (hb1.mono (by first | omega | (simp;done) | (simp;omega))))))⟩
theorem apply_nofit (p f k n d:Int) (w:World) (h:1 ≤ p ∧ p ≤ 2000 ∧ 0 ≤ f ∧ f ≤ 2000) (hk:3 ≤ k ∧ k ≤ 8) (hn:facB k n d = false) :
  Calls Tryz.prog 124 #[.agg #[.int .i64 p,.int .i64 f],.agg #[.int .i64 k,.int .i64 n,.int .i64 d]] w fun e w' => e = .returned (ansC 0 0 7) ∧ Below w.heap.size w w':=by
 have HR:=Lib.hid (fun w => right_true p f w h)
 have HF:=Lib.hid (fun w => fits_any k n d w hk)
 rw [hn] at HF
 have k1:=hk.1
 have k2:=hk.2
 clear h hk hn
 go_enter Tryz.func124,Tryz.ntmps124
 go_wp2_with (first | (go_at_call 24;(with_reducible refine (HR.out _).mono ?_);rintro e w1 ⟨rfl,hb1⟩;obtain ⟨hc1,hf1⟩:=arith.bcell hb1;have ha1:w.heap.size < w1.heap.size:=sz_of hb1 (by first | (simp;done) | (simp;omega));have hy1:w.heap.size + 1 < w1.heap.size:=sz_of hb1 (by first | (simp;done) | (simp;omega));have hx1:w.heap.size + 1 + 1 < w1.heap.size:=sz_of hb1 (by simp)) | (go_at_call 154;(with_reducible refine (HF.out _).mono ?_);rintro e w2 ⟨rfl,hb2⟩;obtain ⟨hc2,hf2⟩:=arith.bcell hb2;have ha2:w.heap.size < w2.heap.size:=Nat.lt_of_lt_of_le ha1 hb2.size;have hy2:w.heap.size + 1 < w2.heap.size:=Nat.lt_of_lt_of_le hy1 hb2.size;have hx2:w.heap.size + 1 + 1 < w2.heap.size:=Nat.lt_of_lt_of_le hx1 hb2.size))
 exact bodyPost_ret (v:=.tuple #[.agg #[.int .i64 0,.int .i64 0],.int .i64 7]) (by simp only [results,Tryz.results124];go_simp) rfl ⟨rfl,(by repeat (first | exact Below.refl _ _ | (refine Below.setCell ?_ (by first | omega | (simp;done) | (simp;omega)) _) | (refine Below.alloc ?_ (by first | omega | (simp;done) | (simp;omega)) _) | (refine arith.below_drewN ?_ _) | (refine Below.trans ?_ (hb2.mono (by first | omega | (simp;done) | (simp;omega)))) | (refine Below.trans ?_ (hb1.mono (by first | omega | (simp;done) | (simp;omega))))))⟩
theorem apply_no (p f k n d p' f':Int) (w:World) (h:1 ≤ p ∧ p ≤ 2000 ∧ 0 ≤ f ∧ f ≤ 2000) (hk:3 ≤ k ∧ k ≤ 8) (hn:facB k n d = true)
  (HC0:∀ w,Calls Tryz.prog 155 #[.agg #[.int .i64 p,.int .i64 f],.agg #[.int .i64 k,.int .i64 n,.int .i64 d]] w fun e w' =>
   e = .returned (.tuple #[.agg #[.int .i64 p',.int .i64 f'],.bool false]) ∧ Below w.heap.size w w') :
  Calls Tryz.prog 124 #[.agg #[.int .i64 p,.int .i64 f],.agg #[.int .i64 k,.int .i64 n,.int .i64 d]] w fun e w' => e = .returned (ansC 0 0 5) ∧ Below w.heap.size w w':=by
 have HR:=Lib.hid (fun w => right_true p f w h)
 have HF:=Lib.hid (fun w => fits_any k n d w hk)
 rw [hn] at HF
 have HC:=Lib.hid HC0
 have k1:=hk.1
 have k2:=hk.2
 clear h hk hn HC0
 go_enter Tryz.func124,Tryz.ntmps124
 go_wp2_with (first | (go_at_call 24;(with_reducible refine (HR.out _).mono ?_);rintro e w1 ⟨rfl,hb1⟩;obtain ⟨hc1,hf1⟩:=arith.bcell hb1;have ha1:w.heap.size < w1.heap.size:=sz_of hb1 (by first | (simp;done) | (simp;omega));have hy1:w.heap.size + 1 < w1.heap.size:=sz_of hb1 (by first | (simp;done) | (simp;omega));have hx1:w.heap.size + 1 + 1 < w1.heap.size:=sz_of hb1 (by simp)) | (go_at_call 154;(with_reducible refine (HF.out _).mono ?_);rintro e w2 ⟨rfl,hb2⟩;obtain ⟨hc2,hf2⟩:=arith.bcell hb2;have ha2:w.heap.size < w2.heap.size:=Nat.lt_of_lt_of_le ha1 hb2.size;have hy2:w.heap.size + 1 < w2.heap.size:=Nat.lt_of_lt_of_le hy1 hb2.size;have hx2:w.heap.size + 1 + 1 < w2.heap.size:=Nat.lt_of_lt_of_le hx1 hb2.size) | (go_at_call 155;(with_reducible refine (HC.out _).mono ?_);rintro e w3 ⟨rfl,hb3⟩;obtain ⟨hc3,hf3⟩:=arith.bcell hb3;have ha3:w.heap.size < w3.heap.size:=Nat.lt_of_lt_of_le ha2 hb3.size;have hy3:w.heap.size + 1 < w3.heap.size:=Nat.lt_of_lt_of_le hy2 hb3.size;have hx3:w.heap.size + 1 + 1 < w3.heap.size:=Nat.lt_of_lt_of_le hx2 hb3.size))
 exact bodyPost_ret (v:=.tuple #[.agg #[.int .i64 0,.int .i64 0],.int .i64 5]) (by simp only [results,Tryz.results124];go_simp) rfl ⟨rfl,(by repeat (first | exact Below.refl _ _ | (refine Below.setCell ?_ (by first | omega | (simp;done) | (simp;omega)) _) | (refine Below.alloc ?_ (by first | omega | (simp;done) | (simp;omega)) _) | (refine arith.below_drewN ?_ _) | (refine Below.trans ?_ (hb3.mono (by first | omega | (simp;done) | (simp;omega)))) | (refine Below.trans ?_ (hb2.mono (by first | omega | (simp;done) | (simp;omega)))) | (refine Below.trans ?_ (hb1.mono (by first | omega | (simp;done) | (simp;omega))))))⟩
theorem apply_far (p f k n d p' f':Int) (w:World) (h:1 ≤ p ∧ p ≤ 2000 ∧ 0 ≤ f ∧ f ≤ 2000) (hk:3 ≤ k ∧ k ≤ 8) (hn:facB k n d = true) (hr:¬ (1 ≤ p' ∧ p' ≤ 2000 ∧ 0 ≤ f' ∧ f' ≤ 2000))
  (HC0:∀ w,Calls Tryz.prog 155 #[.agg #[.int .i64 p,.int .i64 f],.agg #[.int .i64 k,.int .i64 n,.int .i64 d]] w fun e w' =>
   e = .returned (.tuple #[.agg #[.int .i64 p',.int .i64 f'],.bool true]) ∧ Below w.heap.size w w') :
  Calls Tryz.prog 124 #[.agg #[.int .i64 p,.int .i64 f],.agg #[.int .i64 k,.int .i64 n,.int .i64 d]] w fun e w' => e = .returned (ansC 0 0 7) ∧ Below w.heap.size w w':=by
 have HR2:=Lib.hid (fun w => right_false p' f' w hr)
 have tok:=trivial
 have HR:=Lib.hid (fun w => right_true p f w h)
 have HF:=Lib.hid (fun w => fits_any k n d w hk)
 rw [hn] at HF
 have HC:=Lib.hid HC0
 have k1:=hk.1
 have k2:=hk.2
 clear h hk hn HC0
 clear hr
 go_enter Tryz.func124,Tryz.ntmps124
 go_wp2_with (first | (have _t:=tok;go_at_call 24;(with_reducible refine (HR.out _).mono ?_);rintro e w1 ⟨rfl,hb1⟩;obtain ⟨hc1,hf1⟩:=arith.bcell hb1;clear tok;have ha1:w.heap.size < w1.heap.size:=sz_of hb1 (by first | (simp;done) | (simp;omega));have hy1:w.heap.size + 1 < w1.heap.size:=sz_of hb1 (by first | (simp;done) | (simp;omega));have hx1:w.heap.size + 1 + 1 < w1.heap.size:=sz_of hb1 (by simp)) | (go_at_call 154;(with_reducible refine (HF.out _).mono ?_);rintro e w2 ⟨rfl,hb2⟩;obtain ⟨hc2,hf2⟩:=arith.bcell hb2;have ha2:w.heap.size < w2.heap.size:=Nat.lt_of_lt_of_le ha1 hb2.size;have hy2:w.heap.size + 1 < w2.heap.size:=Nat.lt_of_lt_of_le hy1 hb2.size;have hx2:w.heap.size + 1 + 1 < w2.heap.size:=Nat.lt_of_lt_of_le hx1 hb2.size) | (go_at_call 155;(with_reducible refine (HC.out _).mono ?_);rintro e w3 ⟨rfl,hb3⟩;obtain ⟨hc3,hf3⟩:=arith.bcell hb3;have ha3:w.heap.size < w3.heap.size:=Nat.lt_of_lt_of_le ha2 hb3.size;have hy3:w.heap.size + 1 < w3.heap.size:=Nat.lt_of_lt_of_le hy2 hb3.size;have hx3:w.heap.size + 1 + 1 < w3.heap.size:=Nat.lt_of_lt_of_le hx2 hb3.size) | (go_at_call 24;(with_reducible refine (HR2.out _).mono ?_);rintro e w4 ⟨rfl,hb4⟩;obtain ⟨hc4,hf4⟩:=arith.bcell hb4;have ha4:w.heap.size < w4.heap.size:=sz_of hb4 (by first | (simp;done) | (simp;omega));have hy4:w.heap.size + 1 < w4.heap.size:=sz_of hb4 (by first | (simp;done) | (simp;omega));have hx4:w.heap.size + 1 + 1 < w4.heap.size:=sz_of hb4 (by first | (simp;done) | (simp;omega));have hv4:w3.heap.size < w4.heap.size:=sz_of hb4 (by simp);have he4:w.heap.size + 1 + 1 < w3.heap.size + 1:=(by omega);have hn4:¬ w.heap.size + 1 + 1 = w3.heap.size:=(by omega)))
 exact bodyPost_ret (v:=.tuple #[.agg #[.int .i64 0,.int .i64 0],.int .i64 7]) (by simp only [results,Tryz.results124];go_simp) rfl ⟨rfl,(by repeat (first | exact Below.refl _ _ | (refine Below.setCell ?_ (by first | omega | (simp;done) | (simp;omega)) _) | (refine Below.alloc ?_ (by first | omega | (simp;done) | (simp;omega)) _) | (refine arith.below_drewN ?_ _) | (refine Below.trans ?_ (hb4.mono (by first | omega | (simp;done) | (simp;omega)))) | (refine Below.trans ?_ (hb3.mono (by first | omega | (simp;done) | (simp;omega)))) | (refine Below.trans ?_ (hb2.mono (by first | omega | (simp;done) | (simp;omega)))) | (refine Below.trans ?_ (hb1.mono (by first | omega | (simp;done) | (simp;omega))))))⟩
theorem apply_yes (p f k n d p' f':Int) (w:World) (h:1 ≤ p ∧ p ≤ 2000 ∧ 0 ≤ f ∧ f ≤ 2000) (hk:3 ≤ k ∧ k ≤ 8) (hn:facB k n d = true) (hr:1 ≤ p' ∧ p' ≤ 2000 ∧ 0 ≤ f' ∧ f' ≤ 2000)
  (HC0:∀ w,Calls Tryz.prog 155 #[.agg #[.int .i64 p,.int .i64 f],.agg #[.int .i64 k,.int .i64 n,.int .i64 d]] w fun e w' =>
   e = .returned (.tuple #[.agg #[.int .i64 p',.int .i64 f'],.bool true]) ∧ Below w.heap.size w w') :
  Calls Tryz.prog 124 #[.agg #[.int .i64 p,.int .i64 f],.agg #[.int .i64 k,.int .i64 n,.int .i64 d]] w fun e w' => e = .returned (ansC p' f' 0) ∧ Below w.heap.size w w':=by
 have HR2:=Lib.hid (fun w => right_true p' f' w hr)
 have tok:=trivial
 have HR:=Lib.hid (fun w => right_true p f w h)
 have HF:=Lib.hid (fun w => fits_any k n d w hk)
 rw [hn] at HF
 have HC:=Lib.hid HC0
 have k1:=hk.1
 have k2:=hk.2
 clear h hk hn HC0
 clear hr
 go_enter Tryz.func124,Tryz.ntmps124
 go_wp2_with (first | (have _t:=tok;go_at_call 24;(with_reducible refine (HR.out _).mono ?_);rintro e w1 ⟨rfl,hb1⟩;obtain ⟨hc1,hf1⟩:=arith.bcell hb1;clear tok;have ha1:w.heap.size < w1.heap.size:=sz_of hb1 (by first | (simp;done) | (simp;omega));have hy1:w.heap.size + 1 < w1.heap.size:=sz_of hb1 (by first | (simp;done) | (simp;omega));have hx1:w.heap.size + 1 + 1 < w1.heap.size:=sz_of hb1 (by simp)) | (go_at_call 154;(with_reducible refine (HF.out _).mono ?_);rintro e w2 ⟨rfl,hb2⟩;obtain ⟨hc2,hf2⟩:=arith.bcell hb2;have ha2:w.heap.size < w2.heap.size:=Nat.lt_of_lt_of_le ha1 hb2.size;have hy2:w.heap.size + 1 < w2.heap.size:=Nat.lt_of_lt_of_le hy1 hb2.size;have hx2:w.heap.size + 1 + 1 < w2.heap.size:=Nat.lt_of_lt_of_le hx1 hb2.size) | (go_at_call 155;(with_reducible refine (HC.out _).mono ?_);rintro e w3 ⟨rfl,hb3⟩;obtain ⟨hc3,hf3⟩:=arith.bcell hb3;have ha3:w.heap.size < w3.heap.size:=Nat.lt_of_lt_of_le ha2 hb3.size;have hy3:w.heap.size + 1 < w3.heap.size:=Nat.lt_of_lt_of_le hy2 hb3.size;have hx3:w.heap.size + 1 + 1 < w3.heap.size:=Nat.lt_of_lt_of_le hx2 hb3.size) | (go_at_call 24;(with_reducible refine (HR2.out _).mono ?_);rintro e w4 ⟨rfl,hb4⟩;obtain ⟨hc4,hf4⟩:=arith.bcell hb4;have ha4:w.heap.size < w4.heap.size:=sz_of hb4 (by first | (simp;done) | (simp;omega));have hy4:w.heap.size + 1 < w4.heap.size:=sz_of hb4 (by first | (simp;done) | (simp;omega));have hx4:w.heap.size + 1 + 1 < w4.heap.size:=sz_of hb4 (by first | (simp;done) | (simp;omega));have hv4:w3.heap.size < w4.heap.size:=sz_of hb4 (by simp);have he4:w.heap.size + 1 + 1 < w3.heap.size + 1:=(by omega);have hn4:¬ w.heap.size + 1 + 1 = w3.heap.size:=(by omega)))
 exact bodyPost_ret (v:=.tuple #[.agg #[.int .i64 p',.int .i64 f'],.int .i64 0]) (by simp only [results,Tryz.results124];go_simp) rfl ⟨rfl,(by repeat (first | exact Below.refl _ _ | (refine Below.setCell ?_ (by first | omega | (simp;done) | (simp;omega)) _) | (refine Below.alloc ?_ (by first | omega | (simp;done) | (simp;omega)) _) | (refine arith.below_drewN ?_ _) | (refine Below.trans ?_ (hb4.mono (by first | omega | (simp;done) | (simp;omega)))) | (refine Below.trans ?_ (hb3.mono (by first | omega | (simp;done) | (simp;omega)))) | (refine Below.trans ?_ (hb2.mono (by first | omega | (simp;done) | (simp;omega)))) | (refine Below.trans ?_ (hb1.mono (by first | omega | (simp;done) | (simp;omega))))))⟩
def fin (p f:Int):Int × Int × Int:=if f ≤ 2000 then (p,f,0) else (0,0,7)
def applyP (p f k n d:Int):Int × Int × Int :=
 if rightB p f = false ∨ k < 3 ∨ 8 < k then (0,0,12)
 else if facB k n d = false then (0,0,7)
 else if k = 3 then (if p % n = 0 then (p / n,f,0) else (0,0,5))
 else if k = 4 then (if p * n ≤ 2000 then (p * n,f,0) else (0,0,7))
 else if k = 5 then (if p * n % d = 0 then fin p (f + p * n / d) else (0,0,5))
 else if k = 6 then (p,f,0)
 else if k = 7 then fin p (f + p)
 else if p ≤ f then (p,f - p,0) else (0,0,5)
def ansT (r:Int × Int × Int):Value:=ansC r.1 r.2.1 r.2.2
theorem fac34 {k n d:Int} (hk:k = 3 ∨ k = 4) (h:facB k n d = true):1 ≤ n ∧ n ≤ 100:=by
 unfold facB at h;have:=of_decide_eq_true h;omega
theorem fac5 {n d:Int} (h:facB 5 n d = true):1 ≤ d ∧ d ≤ 100 ∧ 0 ≤ n ∧ n ≤ 100:=by
 unfold facB at h;have:=of_decide_eq_true h;omega
theorem quo_right {p n:Int} (h1:1 ≤ p) (h2:p ≤ 2000) (hn:1 ≤ n) (hz:p % n = 0):1 ≤ p / n ∧ p / n ≤ 2000:=by
 have h:=plain.ediv_le p n hn
 have h':=h.1 (by omega)
 refine ⟨?_,by omega⟩
 apply Classical.byContradiction;intro hlt
 have h0:p / n = 0:=by omega
 have:=Int.ediv_mul_add_emod p n
 rw [h0,hz] at this;omega
theorem mul_ge {p n:Int} (h1:1 ≤ p) (hn:1 ≤ n):1 ≤ p * n:=arith.mul_pos1 h1 hn
theorem apply_any (p f k n d:Int) (w:World) :
  Calls Tryz.prog 124 #[.agg #[.int .i64 p,.int .i64 f],.agg #[.int .i64 k,.int .i64 n,.int .i64 d]] w fun e w' =>
   e = .returned (ansT (applyP p f k n d)) ∧ Below w.heap.size w w':=by
 by_cases h:1 ≤ p ∧ p ≤ 2000 ∧ 0 ≤ f ∧ f ≤ 2000
 ·have hR:=right_yes h
  by_cases hk:k < 3 ∨ 8 < k
  ·have e:applyP p f k n d = (0,0,12):=by unfold applyP;rw [if_pos (.inr hk)]
   rw [e];exact apply_kind p f k n d w h hk
  ·have hk':3 ≤ k ∧ k ≤ 8:=by omega
   have n1:¬ (rightB p f = false ∨ k < 3 ∨ 8 < k):=by rw [hR];simp;omega
   cases hn:facB k n d with
   | false =>
    have e:applyP p f k n d = (0,0,7):=by unfold applyP;rw [if_neg n1,if_pos hn]
    rw [e];exact apply_nofit p f k n d w h hk' hn
   | true =>
    have n2:¬ (facB k n d = false):=by rw [hn];simp
    have p1:=h.1
    have p2:=h.2.1
    have f1:=h.2.2.1
    have f2:=h.2.2.2
    have hcases:k = 3 ∨ k = 4 ∨ k = 5 ∨ k = 6 ∨ k = 7 ∨ k = 8:=by omega
    rcases hcases with rfl | rfl | rfl | rfl | rfl | rfl
    ·have hf:=fac34 (.inl rfl) hn
     by_cases hz:p % n = 0
     ·have q:=quo_right p1 p2 hf.1 hz
      have e:applyP p f 3 n d = (p / n,f,0):=by unfold applyP;rw [if_neg n1,if_neg n2,if_pos rfl,if_pos hz]
      rw [e]
      refine apply_yes p f 3 n d (p / n) f w h hk' hn ⟨q.1,q.2,f1,f2⟩ fun w => ?_
      have:=change_over p f n d w (by omega) p2 f1 f2 hf.1 hf.2
      rwa [show (p % n == 0) = true by simpa using hz] at this
     ·have e:applyP p f 3 n d = (0,0,5):=by unfold applyP;rw [if_neg n1,if_neg n2,if_pos rfl,if_neg hz]
      rw [e]
      refine apply_no p f 3 n d (p / n) f w h hk' hn fun w => ?_
      have:=change_over p f n d w (by omega) p2 f1 f2 hf.1 hf.2
      rwa [show (p % n == 0) = false by simpa using hz] at this
    ·have hf:=fac34 (.inr rfl) hn
     have hm:=mul_ge p1 hf.1
     by_cases hz:p * n ≤ 2000
     ·have e:applyP p f 4 n d = (p * n,f,0):=by unfold applyP;rw [if_neg n1,if_neg n2,if_neg (by omega),if_pos rfl,if_pos hz]
      rw [e]
      exact apply_yes p f 4 n d (p * n) f w h hk' hn ⟨hm,hz,f1,f2⟩ fun w => change_under p f n d w (by omega) p2 f1 f2 hf.1 hf.2
     ·have e:applyP p f 4 n d = (0,0,7):=by unfold applyP;rw [if_neg n1,if_neg n2,if_neg (by omega),if_pos rfl,if_neg hz]
      rw [e]
      exact apply_far p f 4 n d (p * n) f w h hk' hn (by omega) fun w => change_under p f n d w (by omega) p2 f1 f2 hf.1 hf.2
    ·have hf:=fac5 hn
     by_cases hz:p * n % d = 0
     ·have e:applyP p f 5 n d = fin p (f + p * n / d):=by unfold applyP;rw [if_neg n1,if_neg n2,if_neg (by omega),if_neg (by omega),if_pos rfl,if_pos hz]
      have HC:∀ w,Calls Tryz.prog 155 #[.agg #[.int .i64 p,.int .i64 f],.agg #[.int .i64 5,.int .i64 n,.int .i64 d]] w fun e w' =>
        e = .returned (.tuple #[.agg #[.int .i64 p,.int .i64 (f + p * n / d)],.bool true]) ∧ Below w.heap.size w w':=fun w => by
       have:=change_shift p f n d w (by omega) p2 f1 f2 hf.2.2.1 hf.2.2.2 hf.1 hf.2.1
       rwa [show (p * n % d == 0) = true by simpa using hz] at this
      have hq:=Int.ediv_nonneg (Int.mul_nonneg (show 0 ≤ p by omega) hf.2.2.1) (show 0 ≤ d by omega)
      rw [e];unfold fin
      by_cases hr:f + p * n / d ≤ 2000
      ·rw [if_pos hr];exact apply_yes p f 5 n d p (f + p * n / d) w h hk' hn ⟨p1,p2,by omega,hr⟩ HC
      ·rw [if_neg hr];exact apply_far p f 5 n d p (f + p * n / d) w h hk' hn (by omega) HC
     ·have e:applyP p f 5 n d = (0,0,5):=by unfold applyP;rw [if_neg n1,if_neg n2,if_neg (by omega),if_neg (by omega),if_pos rfl,if_neg hz]
      rw [e]
      refine apply_no p f 5 n d p (f + p * n / d) w h hk' hn fun w => ?_
      have:=change_shift p f n d w (by omega) p2 f1 f2 hf.2.2.1 hf.2.2.2 hf.1 hf.2.1
      rwa [show (p * n % d == 0) = false by simpa using hz] at this
    ·have e:applyP p f 6 n d = (p,f,0):=by unfold applyP;rw [if_neg n1,if_neg n2,if_neg (by omega),if_neg (by omega),if_neg (by omega),if_pos rfl]
     rw [e];exact apply_yes p f 6 n d p f w h hk' hn h fun w => change_fby p f n d w
    ·have e:applyP p f 7 n d = fin p (f + p):=by unfold applyP;rw [if_neg n1,if_neg n2,if_neg (by omega),if_neg (by omega),if_neg (by omega),if_neg (by omega),if_pos rfl]
     rw [e];unfold fin
     by_cases hr:f + p ≤ 2000
     ·rw [if_pos hr];exact apply_yes p f 7 n d p (f + p) w h hk' hn ⟨p1,p2,by omega,hr⟩ fun w => change_tail p f n d w (by omega) p2 f1 f2
     ·rw [if_neg hr];exact apply_far p f 7 n d p (f + p) w h hk' hn (by omega) fun w => change_tail p f n d w (by omega) p2 f1 f2
    ·by_cases hz:p ≤ f
     ·have e:applyP p f 8 n d = (p,f - p,0):=by unfold applyP;rw [if_neg n1,if_neg n2,if_neg (by omega),if_neg (by omega),if_neg (by omega),if_neg (by omega),if_neg (by omega),if_pos hz]
      rw [e]
      refine apply_yes p f 8 n d p (f - p) w h hk' hn ⟨p1,p2,by omega,by omega⟩ fun w => ?_
      have:=change_cons p f n d w (by omega) p2 f1 f2
      rwa [show decide (p ≤ f) = true by simpa using hz] at this
     ·have e:applyP p f 8 n d = (0,0,5):=by unfold applyP;rw [if_neg n1,if_neg n2,if_neg (by omega),if_neg (by omega),if_neg (by omega),if_neg (by omega),if_neg (by omega),if_neg hz]
      rw [e]
      refine apply_no p f 8 n d p (f - p) w h hk' hn fun w => ?_
      have:=change_cons p f n d w (by omega) p2 f1 f2
      rwa [show decide (p ≤ f) = false by simpa using hz] at this
 ·have e:applyP p f k n d = (0,0,12):=by unfold applyP;rw [if_pos (.inl (right_no h))]
  rw [e];exact apply_wrong p f k n d w h
end Go.Proofs.YtpjficjlfibibaaGreatDoor.clock
