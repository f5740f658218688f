/- Parts of the proof. -/
import Derived.Test.YtlhlcdjiafdoeaaGreatDoorV00
set_option linter.all false
set_option maxRecDepth 100000
set_option maxHeartbeats 16000000
namespace Go.Proofs.YtlhlcdjiafdoeaaGreatDoor.clock
open Go.RowKit
def Q1 (k n d:Int):Bool:=decide ((k=3∨k=4→1≤n∧n≤100)∧(k=5→1≤d∧d≤100∧0≤n∧n≤100))
theorem EU {k n d:Int} (h:(k=3∨k=4→1≤n∧n≤100)∧(k=5→1≤d∧d≤100∧0≤n∧n≤100)):Q1 k n d=true:=by unfold Q1;exact decide_eq_true h
theorem qh {k n d:Int} (h:¬((k=3∨k=4→1≤n∧n≤100)∧(k=5→1≤d∧d≤100∧0≤n∧n≤100))):Q1 k n d=false:=by
 unfold Q1;exact Yq h
theorem VV {w:World} (o:Obj):Below w.heap.size w (w.alloc o):=(Below.refl _ _).alloc (Yn _) _
theorem eX (k n d:Int) (w:World) (hk:k=3∨k=4) :
  Calls Tryz.prog 138 #[.agg #[.int .i64 k,.int .i64 n,.int .i64 d]] w fun e w'=>e=.returned (.bool (qY n 1 100))∧Below w.heap.size w w':=by
 rcases hk with rfl|rfl
 all_goals
  go_enter Tryz.func138,Tryz.ntmps138
  go_wp2_with (go_at_call 53;refine(X0 _ _ _ _).mono ?_;rintro e w' ⟨rfl,rfl⟩)
  go_ret
  exact⟨rfl,VV _⟩
theorem Zbo (n d:Int) (w:World) (h:1≤d∧d≤100) :
  Calls Tryz.prog 138 #[.agg #[.int .i64 5,.int .i64 n,.int .i64 d]] w fun e w'=>e=.returned (.bool (qY n 0 100))∧Below w.heap.size w w':=by
 have HD:=Lib.hid (fun w=>JD d 1 100 w h.1 h.2)
 clear h
 go_enter Tryz.func138,Tryz.ntmps138
 go_wp2_with (first|(go_at_call 53;with_reducible refine(HD.out _).mono ?_;rintro e w' ⟨rfl,rfl⟩)|(go_at_call 53;refine(X0 _ _ _ _).mono ?_;rintro e w' ⟨rfl,rfl⟩))
 go_ret
 exact⟨rfl,VV _⟩
theorem kv (n d:Int) (w:World) (h:d<1∨100<d) :
  Calls Tryz.prog 138 #[.agg #[.int .i64 5,.int .i64 n,.int .i64 d]] w fun e w'=>e=.returned (.bool false)∧Below w.heap.size w w':=by
 have HD:=Lib.hid (fun w=>Vf d 1 100 w h)
 clear h
 go_enter Tryz.func138,Tryz.ntmps138
 go_wp2_with (first|(go_at_call 53;with_reducible refine(HD.out _).mono ?_;rintro e w' ⟨rfl,rfl⟩))
 go_ret
 exact⟨rfl,VV _⟩
theorem kw (k n d:Int) (w:World) (hk:k=6∨k=7∨k=8) :
  Calls Tryz.prog 138 #[.agg #[.int .i64 k,.int .i64 n,.int .i64 d]] w fun e w'=>e=.returned (.bool true)∧Below w.heap.size w w':=by
 rcases hk with rfl|rfl|rfl
 all_goals
  go_enter Tryz.func138,Tryz.ntmps138
  go_wp2
  go_ret
  exact⟨rfl,VV _⟩
theorem QU (k n d:Int) (w:World) (hk:3≤k∧k≤8) :
  Calls Tryz.prog 138 #[.agg #[.int .i64 k,.int .i64 n,.int .i64 d]] w fun e w'=>e=.returned (.bool (Q1 k n d))∧Below w.heap.size w w':=by
 by_cases h34:k=3∨k=4
 ·have H:=eX k n d w h34
  by_cases hn:1≤n∧n≤100
  ·rw[Kg hn.1 hn.2] at H;rw[EU oz];exact H
  rw[Gz oz] at H;rw[qh oz];exact H
 by_cases h5:k=5
 ·subst h5
  by_cases hd:1≤d∧d≤100
  ·have H:=Zbo n d w hd
   by_cases hn:0≤n∧n≤100
   ·rw[Kg hn.1 hn.2] at H;rw[EU oz];exact H
   rw[Gz oz] at H;rw[qh oz];exact H
  rw[qh oz];exact kv n d w oz
 rw[EU oz];exact kw k n d w oz
theorem kS {p n:Int} (h1:0≤p) (h2:p≤2000) (h3:-1≤n) (h4:n≤100):-2000≤p*n∧p*n≤200000:=by
 have a:p*n≤p*100:=Int.mul_le_mul_of_nonneg_left h4 h1
 have b:p*(-1)≤p*n:=Int.mul_le_mul_of_nonneg_left h3 h1
 omega
theorem ZbL {x d:Int} (h1:-2000≤x) (h2:x≤200000) (hd:1≤d):-2000≤x/d∧x/d≤200000:=by
 have:=plain.ER x d hd
 by_cases h:0≤x
 ·have:=this.1 h;omega
 have:=this.2 oz;omega
theorem Ge (p n d:Int) (w:World) (h1:0≤p) (h2:p≤2000) (h3:-1≤n) (h4:n≤100) (h5:1≤d) (h6:d≤9223372036854775807) :
  Calls Tryz.prog 154 #[.int .i64 p,.int .i64 n,.int .i64 d] w fun e w'=>e=.returned (.tuple #[.int .i64 (p*n/d),.bool (p*n%d == 0)])∧∃m,w'=w.drewN m:=by
 have hm:=kS h1 h2 h3 h4
 have v1:wrap64 (p*n)=p*n:=IntWalk.wrap64_in _ oz
 have HF:=Lib.hid (fun w=>arith.vx (p*n) d w h5 oz oz h6)
 go_enter Tryz.func154,Tryz.ntmps154
 go_wp2_with (go_at_call 165;refine(HF.out _).mono ?_;rintro e w' ⟨rfl,m1,rfl⟩)
 go_ret2
 exact⟨rfl,_,rfl⟩
def shB (p f n d:Int):Bool:=decide (p*n%d=0∧0≤f+p*n/d)
theorem UB (p f n d:Int) (w:World) (h1:0≤p) (h2:p≤2000) (f1:0≤f) (f2:f≤2000) (h3:-1≤n) (h4:n≤100) (h5:1≤d) (h6:d≤100) :
  Calls Tryz.prog 155 #[.agg #[.int .i64 p,.int .i64 f],.int .i64 n,.int .i64 d] w fun e w' =>
   e=.returned (.tuple #[.agg #[.int .i64 p,.int .i64 (f+p*n/d)],.bool (shB p f n d)])∧Below w.heap.size w w':=by
 have hm:=kS h1 h2 h3 h4
 have hq:=ZbL hm.1 hm.2 h5
 have q1:=hq.1
 have q2:=hq.2
 have HP:=Lib.hid (fun w=>Ge p n d w h1 h2 h3 h4 h5 oz)
 clear hm hq
 by_cases hz:p*n%d=0
 ·have z:(p*n%d == 0)=true:=by simpa using hz
  by_cases hp:0≤f+p*n/d
  ·have E:Hid (shB p f n d=true):=by unfold shB;exact decide_eq_true ⟨hz,hp⟩
   clear hz
   go_enter Tryz.func155,Tryz.ntmps155
   go_wp2_with (go_at_call 154;refine(HP.out _).mono ?_;rintro e w' ⟨rfl,m1,rfl⟩)
   exact bodyPost_ret (v:=.tuple #[.agg #[.int .i64 p,.int .i64 (f+p*n/d)],.bool true]) (by simp[results,Tryz.results155,go_sem]<;>omega) rfl ⟨by rw[E.out],(by repeat (first|exact Below.refl _ _|(refine Below.setCell ?_ (by first|(simp;done)|(simp;omega)) _)|(refine Below.alloc ?_ (by first|(simp;done)|(simp;omega)) _)|(refine arith.below_drewN ?_ _)))⟩
  have E:Hid (shB p f n d=false):=by unfold shB;exact Yq (fun h=>hp h.2)
  clear hz
  have hp':f+p*n/d<0:=oz
  clear hp
  go_enter Tryz.func155,Tryz.ntmps155
  go_wp2_with (go_at_call 154;refine(HP.out _).mono ?_;rintro e w' ⟨rfl,m1,rfl⟩)
  exact bodyPost_ret (v:=.tuple #[.agg #[.int .i64 p,.int .i64 (f+p*n/d)],.bool false]) (by simp[results,Tryz.results155,go_sem]<;>omega) rfl ⟨by rw[E.out],(by repeat (first|exact Below.refl _ _|(refine Below.setCell ?_ (by first|(simp;done)|(simp;omega)) _)|(refine Below.alloc ?_ (by first|(simp;done)|(simp;omega)) _)|(refine arith.below_drewN ?_ _)))⟩
 have z:(p*n%d == 0)=false:=by simpa using hz
 have E:Hid (shB p f n d=false):=by unfold shB;exact Yq (fun h=>hz h.1)
 clear hz
 go_enter Tryz.func155,Tryz.ntmps155
 go_wp2_with (go_at_call 154;refine(HP.out _).mono ?_;rintro e w' ⟨rfl,m1,rfl⟩)
 exact bodyPost_ret (v:=.tuple #[.agg #[.int .i64 p,.int .i64 (f+p*n/d)],.bool false]) (by simp[results,Tryz.results155,go_sem]<;>omega) rfl ⟨by rw[E.out],(by repeat (first|exact Below.refl _ _|(refine Below.setCell ?_ (by first|(simp;done)|(simp;omega)) _)|(refine Below.alloc ?_ (by first|(simp;done)|(simp;omega)) _)|(refine arith.below_drewN ?_ _)))⟩
theorem UM (p f n d:Int) (w:World) (h1:0≤p) (h2:p≤2000) (f1:0≤f) (f2:f≤2000) (h3:1≤n) (h4:n≤100) :
  Calls Tryz.prog 139 #[.agg #[.int .i64 p,.int .i64 f],.agg #[.int .i64 3,.int .i64 n,.int .i64 d]] w fun e w' =>
   e=.returned (.tuple #[.agg #[.int .i64 (p/n),.int .i64 f],.bool (p%n == 0)])∧Below w.heap.size w w':=by
 have HP:=Lib.hid (fun w=>Ge p 1 n w h1 h2 oz oz h3 oz)
 have e1:p*1=p:=oz
 rw[e1] at HP
 clear e1
 go_enter Tryz.func139,Tryz.ntmps139
 go_wp2_with (go_at_call 154;refine(HP.out _).mono ?_;rintro e w' ⟨rfl,m1,rfl⟩)
 exact bodyPost_ret (v:=.tuple #[.agg #[.int .i64 (p/n),.int .i64 f],.bool (p%n == 0)]) (by simp[results,Tryz.results139,go_sem]) rfl ⟨rfl,(by repeat (first|exact Below.refl _ _|(refine Below.setCell ?_ (by first|(simp;done)|(simp;omega)) _)|(refine Below.alloc ?_ (by first|(simp;done)|(simp;omega)) _)|(refine arith.below_drewN ?_ _)))⟩
theorem V1 (p f n d:Int) (w:World) (h1:0≤p) (h2:p≤2000) (f1:0≤f) (f2:f≤2000) (h3:1≤n) (h4:n≤100) :
  Calls Tryz.prog 139 #[.agg #[.int .i64 p,.int .i64 f],.agg #[.int .i64 4,.int .i64 n,.int .i64 d]] w fun e w' =>
   e=.returned (.tuple #[.agg #[.int .i64 (p*n),.int .i64 f],.bool true])∧Below w.heap.size w w':=by
 have HP:=Lib.hid (fun w=>Ge p n 1 w h1 h2 oz oz oz oz)
 have e1:p*n/1=p*n:=oz
 have e2:(p*n%1 == 0)=true:=by simp
 rw[e1,e2] at HP
 clear e1 e2
 go_enter Tryz.func139,Tryz.ntmps139
 go_wp2_with (go_at_call 154;refine(HP.out _).mono ?_;rintro e w' ⟨rfl,m1,rfl⟩)
 exact bodyPost_ret (v:=.tuple #[.agg #[.int .i64 (p*n),.int .i64 f],.bool true]) (by simp[results,Tryz.results139,go_sem]) rfl ⟨rfl,(by repeat (first|exact Below.refl _ _|(refine Below.setCell ?_ (by first|(simp;done)|(simp;omega)) _)|(refine Below.alloc ?_ (by first|(simp;done)|(simp;omega)) _)|(refine arith.below_drewN ?_ _)))⟩
theorem V0 (p f n d:Int) (w:World) (h1:0≤p) (h2:p≤2000) (f1:0≤f) (f2:f≤2000) (h3:0≤n) (h4:n≤100) (h5:1≤d) (h6:d≤100) :
  Calls Tryz.prog 139 #[.agg #[.int .i64 p,.int .i64 f],.agg #[.int .i64 5,.int .i64 n,.int .i64 d]] w fun e w' =>
   e=.returned (.tuple #[.agg #[.int .i64 p,.int .i64 (f+p*n/d)],.bool (p*n%d == 0)])∧Below w.heap.size w w':=by
 have hs:shB p f n d=(p*n%d == 0):=by
  have hm:=Int.mul_nonneg h1 h3
  have hq:=Int.ediv_nonneg hm (show 0≤d by omega)
  unfold shB
  by_cases hz:p*n%d=0
  ·rw[decide_eq_true ⟨hz,oz⟩];simp[hz]
  rw[Yq (fun h=>hz h.1)];simp[hz]
 have HP:=Lib.hid (fun w=>UB p f n d w h1 h2 f1 f2 oz h4 h5 h6)
 rw[hs] at HP
 clear hs
 go_enter Tryz.func139,Tryz.ntmps139
 go_wp2_with (go_at_call 155;refine(HP.out _).mono ?_;rintro e w1 ⟨rfl,hb⟩;obtain⟨hc,hf⟩:=arith.Yx hb)
 exact bodyPost_ret (v:=.tuple #[.agg #[.int .i64 p,.int .i64 (f+p*n/d)],.bool (p*n%d == 0)]) (by simp[results,Tryz.results139,go_sem,hc]) rfl ⟨rfl,(by repeat (first|exact Below.refl _ _|(refine Below.setCell ?_ (by first|(simp;done)|(simp;omega)) _)|(refine Below.alloc ?_ (by first|(simp;done)|(simp;omega)) _)|(refine arith.below_drewN ?_ _)|(refine Below.trans ?_ (hb.mono (by first|(simp;done)|(simp;omega))))))⟩
theorem xQ (p f n d:Int) (w:World) :
  Calls Tryz.prog 139 #[.agg #[.int .i64 p,.int .i64 f],.agg #[.int .i64 6,.int .i64 n,.int .i64 d]] w fun e w' =>
   e=.returned (.tuple #[.agg #[.int .i64 p,.int .i64 f],.bool true])∧Below w.heap.size w w':=by
 go_enter Tryz.func139,Tryz.ntmps139
 go_wp2
 exact bodyPost_ret (v:=.tuple #[.agg #[.int .i64 p,.int .i64 f],.bool true]) (by simp[results,Tryz.results139,go_sem]) rfl ⟨rfl,(by repeat (first|exact Below.refl _ _|(refine Below.setCell ?_ (by first|(simp;done)|(simp;omega)) _)|(refine Below.alloc ?_ (by first|(simp;done)|(simp;omega)) _)|(refine arith.below_drewN ?_ _)))⟩
theorem UN (p f n d:Int) (w:World) (h1:0≤p) (h2:p≤2000) (f1:0≤f) (f2:f≤2000) :
  Calls Tryz.prog 139 #[.agg #[.int .i64 p,.int .i64 f],.agg #[.int .i64 7,.int .i64 n,.int .i64 d]] w fun e w' =>
   e=.returned (.tuple #[.agg #[.int .i64 p,.int .i64 (f+p)],.bool true])∧Below w.heap.size w w':=by
 have hs:shB p f 1 1=true:=by unfold shB;exact decide_eq_true ⟨oz,oz⟩
 have e1:p*1/1=p:=oz
 have HP:=Lib.hid (fun w=>UB p f 1 1 w h1 h2 f1 f2 oz oz oz oz)
 rw[hs,e1] at HP
 clear hs e1
 go_enter Tryz.func139,Tryz.ntmps139
 go_wp2_with (go_at_call 155;refine(HP.out _).mono ?_;rintro e w1 ⟨rfl,hb⟩;obtain⟨hc,hf⟩:=arith.Yx hb)
 exact bodyPost_ret (v:=.tuple #[.agg #[.int .i64 p,.int .i64 (f+p)],.bool true]) (by simp[results,Tryz.results139,go_sem,hc]) rfl ⟨rfl,(by repeat (first|exact Below.refl _ _|(refine Below.setCell ?_ (by first|(simp;done)|(simp;omega)) _)|(refine Below.alloc ?_ (by first|(simp;done)|(simp;omega)) _)|(refine arith.below_drewN ?_ _)|(refine Below.trans ?_ (hb.mono (by first|(simp;done)|(simp;omega))))))⟩
theorem UL (p f n d:Int) (w:World) (h1:0≤p) (h2:p≤2000) (f1:0≤f) (f2:f≤2000) :
  Calls Tryz.prog 139 #[.agg #[.int .i64 p,.int .i64 f],.agg #[.int .i64 8,.int .i64 n,.int .i64 d]] w fun e w' =>
   e=.returned (.tuple #[.agg #[.int .i64 p,.int .i64 (f-p)],.bool (decide (p≤f))])∧Below w.heap.size w w':=by
 have hs:shB p f (-1) 1=decide (p≤f):=by
  unfold shB
  by_cases h:p≤f
  ·rw[decide_eq_true h];exact decide_eq_true ⟨oz,oz⟩
  rw[Yq h];exact Yq oz
 have e1:f+p*-1/1=f-p:=oz
 have HP:=Lib.hid (fun w=>UB p f (-1) 1 w h1 h2 f1 f2 oz oz oz oz)
 rw[hs,e1] at HP
 clear hs e1
 go_enter Tryz.func139,Tryz.ntmps139
 go_wp2_with (go_at_call 155;refine(HP.out _).mono ?_;rintro e w1 ⟨rfl,hb⟩;obtain⟨hc,hf⟩:=arith.Yx hb)
 exact bodyPost_ret (v:=.tuple #[.agg #[.int .i64 p,.int .i64 (f-p)],.bool (decide (p≤f))]) (by simp[results,Tryz.results139,go_sem,hc]) rfl ⟨rfl,(by repeat (first|exact Below.refl _ _|(refine Below.setCell ?_ (by first|(simp;done)|(simp;omega)) _)|(refine Below.alloc ?_ (by first|(simp;done)|(simp;omega)) _)|(refine arith.below_drewN ?_ _)|(refine Below.trans ?_ (hb.mono (by first|(simp;done)|(simp;omega))))))⟩
def UW (p f e:Int):Value:=.tuple #[.agg #[.int .i64 p,.int .i64 f],.int .i64 e]
theorem Yv {B k:Nat} {a w:World} (h:Below B a w) (hk:k<a.heap.size):k<w.heap.size:=Yo hk h.size
theorem zB (p f k n d:Int) (w:World) (h:¬(1≤p∧p≤2000∧0≤f∧f≤2000)) :
  Calls Tryz.prog 113 #[.agg #[.int .i64 p,.int .i64 f],.agg #[.int .i64 k,.int .i64 n,.int .i64 d]] w fun e w'=>e=.returned (UW 0 0 12)∧Below w.heap.size w w':=by
 have HR:=Lib.hid (fun w=>X6 p f w h)
 clear h
 go_enter Tryz.func113,Tryz.ntmps113
 go_wp2_with (go_at_call 28;(with_reducible refine(HR.out _).mono ?_);rintro e w1 ⟨rfl,hb1⟩;obtain⟨hc1,hf1⟩:=arith.Yx hb1;have ha1:w.heap.size<w1.heap.size:=Yv hb1 (by first|(simp;done)|(simp;omega));have hy1:w.heap.size+1<w1.heap.size:=Yv hb1 (by first|(simp;done)|(simp;omega));have hx1:w.heap.size+1+1<w1.heap.size:=Yv hb1 (by simp))
 exact bodyPost_ret (v:=.tuple #[.agg #[.int .i64 0,.int .i64 0],.int .i64 12]) (by simp only[results,Tryz.results113];go_simp) rfl ⟨rfl,(by repeat (first|exact Below.refl _ _|(refine Below.setCell ?_ oz _)|(refine Below.alloc ?_ oz _)|(refine arith.below_drewN ?_ _)|(refine Below.trans ?_ (hb1.mono oz))))⟩
theorem xH (p f k n d:Int) (w:World) (h:1≤p∧p≤2000∧0≤f∧f≤2000) (hk:k<3∨8<k) :
  Calls Tryz.prog 113 #[.agg #[.int .i64 p,.int .i64 f],.agg #[.int .i64 k,.int .i64 n,.int .i64 d]] w fun e w'=>e=.returned (UW 0 0 12)∧Below w.heap.size w w':=by
 have HR:=Lib.hid (fun w=>Y7 p f w h)
 clear h
 rcases hk with hk|hk
 all_goals
  go_enter Tryz.func113,Tryz.ntmps113
  go_wp2_with (go_at_call 28;(with_reducible refine(HR.out _).mono ?_);rintro e w1 ⟨rfl,hb1⟩;obtain⟨hc1,hf1⟩:=arith.Yx hb1;have ha1:w.heap.size<w1.heap.size:=Yv hb1 (by first|(simp;done)|(simp;omega));have hy1:w.heap.size+1<w1.heap.size:=Yv hb1 (by first|(simp;done)|(simp;omega));have hx1:w.heap.size+1+1<w1.heap.size:=Yv hb1 (by simp))
  all_goals exact bodyPost_ret (v:=.tuple #[.agg #[.int .i64 0,.int .i64 0],.int .i64 12]) (by simp only[results,Tryz.results113];go_simp) rfl ⟨rfl,(by repeat (first|exact Below.refl _ _|(refine Below.setCell ?_ oz _)|(refine Below.alloc ?_ oz _)|(refine arith.below_drewN ?_ _)|(refine Below.trans ?_ (hb1.mono oz))))⟩
theorem zA (p f k n d:Int) (w:World) (h:1≤p∧p≤2000∧0≤f∧f≤2000) (hk:3≤k∧k≤8) (hn:Q1 k n d=false) :
  Calls Tryz.prog 113 #[.agg #[.int .i64 p,.int .i64 f],.agg #[.int .i64 k,.int .i64 n,.int .i64 d]] w fun e w'=>e=.returned (UW 0 0 7)∧Below w.heap.size w w':=by
 have HR:=Lib.hid (fun w=>Y7 p f w h)
 have HF:=Lib.hid (fun w=>QU k n d w hk)
 rw[hn] at HF
 have k1:=hk.1
 have k2:=hk.2
 clear h hk hn
 go_enter Tryz.func113,Tryz.ntmps113
 go_wp2_with (first|(go_at_call 28;(with_reducible refine(HR.out _).mono ?_);rintro e w1 ⟨rfl,hb1⟩;obtain⟨hc1,hf1⟩:=arith.Yx hb1;have ha1:w.heap.size<w1.heap.size:=Yv hb1 (by first|(simp;done)|(simp;omega));have hy1:w.heap.size+1<w1.heap.size:=Yv hb1 (by first|(simp;done)|(simp;omega));have hx1:w.heap.size+1+1<w1.heap.size:=Yv hb1 (by simp))|(go_at_call 138;(with_reducible refine(HF.out _).mono ?_);rintro e w2 ⟨rfl,hb2⟩;obtain⟨hc2,hf2⟩:=arith.Yx hb2;have ha2:w.heap.size<w2.heap.size:=Yo ha1 hb2.size;have hy2:w.heap.size+1<w2.heap.size:=Yo hy1 hb2.size;have hx2:w.heap.size+1+1<w2.heap.size:=Yo hx1 hb2.size))
 exact bodyPost_ret (v:=.tuple #[.agg #[.int .i64 0,.int .i64 0],.int .i64 7]) (by simp only[results,Tryz.results113];go_simp) rfl ⟨rfl,(by repeat (first|exact Below.refl _ _|(refine Below.setCell ?_ oz _)|(refine Below.alloc ?_ oz _)|(refine arith.below_drewN ?_ _)|(refine Below.trans ?_ (hb2.mono oz))|(refine Below.trans ?_ (hb1.mono oz))))⟩
theorem Kn (p f k n d p' f':Int) (w:World) (h:1≤p∧p≤2000∧0≤f∧f≤2000) (hk:3≤k∧k≤8) (hn:Q1 k n d=true)
  (HC0:∀w,Calls Tryz.prog 139 #[.agg #[.int .i64 p,.int .i64 f],.agg #[.int .i64 k,.int .i64 n,.int .i64 d]] w fun e w' =>
   e=.returned (.tuple #[.agg #[.int .i64 p',.int .i64 f'],.bool false])∧Below w.heap.size w w') :
  Calls Tryz.prog 113 #[.agg #[.int .i64 p,.int .i64 f],.agg #[.int .i64 k,.int .i64 n,.int .i64 d]] w fun e w'=>e=.returned (UW 0 0 5)∧Below w.heap.size w w':=by
 have HR:=Lib.hid (fun w=>Y7 p f w h)
 have HF:=Lib.hid (fun w=>QU k n d w hk)
 rw[hn] at HF
 have HC:=Lib.hid HC0
 have k1:=hk.1
 have k2:=hk.2
 clear h hk hn HC0
 go_enter Tryz.func113,Tryz.ntmps113
 go_wp2_with (first|(go_at_call 28;(with_reducible refine(HR.out _).mono ?_);rintro e w1 ⟨rfl,hb1⟩;obtain⟨hc1,hf1⟩:=arith.Yx hb1;have ha1:w.heap.size<w1.heap.size:=Yv hb1 (by first|(simp;done)|(simp;omega));have hy1:w.heap.size+1<w1.heap.size:=Yv hb1 (by first|(simp;done)|(simp;omega));have hx1:w.heap.size+1+1<w1.heap.size:=Yv hb1 (by simp))|(go_at_call 138;(with_reducible refine(HF.out _).mono ?_);rintro e w2 ⟨rfl,hb2⟩;obtain⟨hc2,hf2⟩:=arith.Yx hb2;have ha2:w.heap.size<w2.heap.size:=Yo ha1 hb2.size;have hy2:w.heap.size+1<w2.heap.size:=Yo hy1 hb2.size;have hx2:w.heap.size+1+1<w2.heap.size:=Yo hx1 hb2.size)|(go_at_call 139;(with_reducible refine(HC.out _).mono ?_);rintro e w3 ⟨rfl,hb3⟩;obtain⟨hc3,hf3⟩:=arith.Yx hb3;have ha3:w.heap.size<w3.heap.size:=Yo ha2 hb3.size;have hy3:w.heap.size+1<w3.heap.size:=Yo hy2 hb3.size;have hx3:w.heap.size+1+1<w3.heap.size:=Yo hx2 hb3.size))
 exact bodyPost_ret (v:=.tuple #[.agg #[.int .i64 0,.int .i64 0],.int .i64 5]) (by simp only[results,Tryz.results113];go_simp) rfl ⟨rfl,(by repeat (first|exact Below.refl _ _|(refine Below.setCell ?_ oz _)|(refine Below.alloc ?_ oz _)|(refine arith.below_drewN ?_ _)|(refine Below.trans ?_ (hb3.mono oz))|(refine Below.trans ?_ (hb2.mono oz))|(refine Below.trans ?_ (hb1.mono oz))))⟩
theorem Up (p f k n d p' f':Int) (w:World) (h:1≤p∧p≤2000∧0≤f∧f≤2000) (hk:3≤k∧k≤8) (hn:Q1 k n d=true) (hr:¬(1≤p'∧p'≤2000∧0≤f'∧f'≤2000))
  (HC0:∀w,Calls Tryz.prog 139 #[.agg #[.int .i64 p,.int .i64 f],.agg #[.int .i64 k,.int .i64 n,.int .i64 d]] w fun e w' =>
   e=.returned (.tuple #[.agg #[.int .i64 p',.int .i64 f'],.bool true])∧Below w.heap.size w w') :
  Calls Tryz.prog 113 #[.agg #[.int .i64 p,.int .i64 f],.agg #[.int .i64 k,.int .i64 n,.int .i64 d]] w fun e w'=>e=.returned (UW 0 0 7)∧Below w.heap.size w w':=by
 have HR2:=Lib.hid (fun w=>X6 p' f' w hr)
 have tok:=trivial
 have HR:=Lib.hid (fun w=>Y7 p f w h)
 have HF:=Lib.hid (fun w=>QU k n d w hk)
 rw[hn] at HF
 have HC:=Lib.hid HC0
 have k1:=hk.1
 have k2:=hk.2
 clear h hk hn HC0
 clear hr
 go_enter Tryz.func113,Tryz.ntmps113
 go_wp2_with (first|(have _t:=tok;go_at_call 28;(with_reducible refine(HR.out _).mono ?_);rintro e w1 ⟨rfl,hb1⟩;obtain⟨hc1,hf1⟩:=arith.Yx hb1;clear tok;have ha1:w.heap.size<w1.heap.size:=Yv hb1 (by first|(simp;done)|(simp;omega));have hy1:w.heap.size+1<w1.heap.size:=Yv hb1 (by first|(simp;done)|(simp;omega));have hx1:w.heap.size+1+1<w1.heap.size:=Yv hb1 (by simp))|(go_at_call 138;(with_reducible refine(HF.out _).mono ?_);rintro e w2 ⟨rfl,hb2⟩;obtain⟨hc2,hf2⟩:=arith.Yx hb2;have ha2:w.heap.size<w2.heap.size:=Yo ha1 hb2.size;have hy2:w.heap.size+1<w2.heap.size:=Yo hy1 hb2.size;have hx2:w.heap.size+1+1<w2.heap.size:=Yo hx1 hb2.size)|(go_at_call 139;(with_reducible refine(HC.out _).mono ?_);rintro e w3 ⟨rfl,hb3⟩;obtain⟨hc3,hf3⟩:=arith.Yx hb3;have ha3:w.heap.size<w3.heap.size:=Yo ha2 hb3.size;have hy3:w.heap.size+1<w3.heap.size:=Yo hy2 hb3.size;have hx3:w.heap.size+1+1<w3.heap.size:=Yo hx2 hb3.size)|(go_at_call 28;(with_reducible refine(HR2.out _).mono ?_);rintro e w4 ⟨rfl,hb4⟩;obtain⟨hc4,hf4⟩:=arith.Yx hb4;have ha4:w.heap.size<w4.heap.size:=Yv hb4 (by first|(simp;done)|(simp;omega));have hy4:w.heap.size+1<w4.heap.size:=Yv hb4 (by first|(simp;done)|(simp;omega));have hx4:w.heap.size+1+1<w4.heap.size:=Yv hb4 (by first|(simp;done)|(simp;omega));have hv4:w3.heap.size<w4.heap.size:=Yv hb4 (by simp);have he4:w.heap.size+1+1<w3.heap.size+1:=oz;have hn4:¬w.heap.size+1+1=w3.heap.size:=oz))
 exact bodyPost_ret (v:=.tuple #[.agg #[.int .i64 0,.int .i64 0],.int .i64 7]) (by simp only[results,Tryz.results113];go_simp) rfl ⟨rfl,(by repeat (first|exact Below.refl _ _|(refine Below.setCell ?_ oz _)|(refine Below.alloc ?_ oz _)|(refine arith.below_drewN ?_ _)|(refine Below.trans ?_ (hb4.mono oz))|(refine Below.trans ?_ (hb3.mono oz))|(refine Below.trans ?_ (hb2.mono oz))|(refine Below.trans ?_ (hb1.mono oz))))⟩
theorem QO (p f k n d p' f':Int) (w:World) (h:1≤p∧p≤2000∧0≤f∧f≤2000) (hk:3≤k∧k≤8) (hn:Q1 k n d=true) (hr:1≤p'∧p'≤2000∧0≤f'∧f'≤2000)
  (HC0:∀w,Calls Tryz.prog 139 #[.agg #[.int .i64 p,.int .i64 f],.agg #[.int .i64 k,.int .i64 n,.int .i64 d]] w fun e w' =>
   e=.returned (.tuple #[.agg #[.int .i64 p',.int .i64 f'],.bool true])∧Below w.heap.size w w') :
  Calls Tryz.prog 113 #[.agg #[.int .i64 p,.int .i64 f],.agg #[.int .i64 k,.int .i64 n,.int .i64 d]] w fun e w'=>e=.returned (UW p' f' 0)∧Below w.heap.size w w':=by
 have HR2:=Lib.hid (fun w=>Y7 p' f' w hr)
 have tok:=trivial
 have HR:=Lib.hid (fun w=>Y7 p f w h)
 have HF:=Lib.hid (fun w=>QU k n d w hk)
 rw[hn] at HF
 have HC:=Lib.hid HC0
 have k1:=hk.1
 have k2:=hk.2
 clear h hk hn HC0
 clear hr
 go_enter Tryz.func113,Tryz.ntmps113
 go_wp2_with (first|(have _t:=tok;go_at_call 28;(with_reducible refine(HR.out _).mono ?_);rintro e w1 ⟨rfl,hb1⟩;obtain⟨hc1,hf1⟩:=arith.Yx hb1;clear tok;have ha1:w.heap.size<w1.heap.size:=Yv hb1 (by first|(simp;done)|(simp;omega));have hy1:w.heap.size+1<w1.heap.size:=Yv hb1 (by first|(simp;done)|(simp;omega));have hx1:w.heap.size+1+1<w1.heap.size:=Yv hb1 (by simp))|(go_at_call 138;(with_reducible refine(HF.out _).mono ?_);rintro e w2 ⟨rfl,hb2⟩;obtain⟨hc2,hf2⟩:=arith.Yx hb2;have ha2:w.heap.size<w2.heap.size:=Yo ha1 hb2.size;have hy2:w.heap.size+1<w2.heap.size:=Yo hy1 hb2.size;have hx2:w.heap.size+1+1<w2.heap.size:=Yo hx1 hb2.size)|(go_at_call 139;(with_reducible refine(HC.out _).mono ?_);rintro e w3 ⟨rfl,hb3⟩;obtain⟨hc3,hf3⟩:=arith.Yx hb3;have ha3:w.heap.size<w3.heap.size:=Yo ha2 hb3.size;have hy3:w.heap.size+1<w3.heap.size:=Yo hy2 hb3.size;have hx3:w.heap.size+1+1<w3.heap.size:=Yo hx2 hb3.size)|(go_at_call 28;(with_reducible refine(HR2.out _).mono ?_);rintro e w4 ⟨rfl,hb4⟩;obtain⟨hc4,hf4⟩:=arith.Yx hb4;have ha4:w.heap.size<w4.heap.size:=Yv hb4 (by first|(simp;done)|(simp;omega));have hy4:w.heap.size+1<w4.heap.size:=Yv hb4 (by first|(simp;done)|(simp;omega));have hx4:w.heap.size+1+1<w4.heap.size:=Yv hb4 (by first|(simp;done)|(simp;omega));have hv4:w3.heap.size<w4.heap.size:=Yv hb4 (by simp);have he4:w.heap.size+1+1<w3.heap.size+1:=oz;have hn4:¬w.heap.size+1+1=w3.heap.size:=oz))
 exact bodyPost_ret (v:=.tuple #[.agg #[.int .i64 p',.int .i64 f'],.int .i64 0]) (by simp only[results,Tryz.results113];go_simp) rfl ⟨rfl,(by repeat (first|exact Below.refl _ _|(refine Below.setCell ?_ oz _)|(refine Below.alloc ?_ oz _)|(refine arith.below_drewN ?_ _)|(refine Below.trans ?_ (hb4.mono oz))|(refine Below.trans ?_ (hb3.mono oz))|(refine Below.trans ?_ (hb2.mono oz))|(refine Below.trans ?_ (hb1.mono oz))))⟩
def fin (p f:Int):Int × Int × Int:=if f≤2000 then (p,f,0) else (0,0,7)
def YC (p f k n d:Int):Int × Int × Int :=
 if YA p f=false∨k<3∨8<k then (0,0,12)
 else if Q1 k n d=false then (0,0,7)
 else if k=3 then (if p%n=0 then (p/n,f,0) else (0,0,5))
 else if k=4 then (if p*n≤2000 then (p*n,f,0) else (0,0,7))
 else if k=5 then (if p*n%d=0 then fin p (f+p*n/d) else (0,0,5))
 else if k=6 then (p,f,0)
 else if k=7 then fin p (f+p)
 else if p≤f then (p,f-p,0) else (0,0,5)
def zy (r:Int × Int × Int):Value:=UW r.1 r.2.1 r.2.2
theorem jv {k n d:Int} (hk:k=3∨k=4) (h:Q1 k n d=true):1≤n∧n≤100:=by
 unfold Q1 at h;have:=of_decide_eq_true h;omega
theorem ZcA {n d:Int} (h:Q1 5 n d=true):1≤d∧d≤100∧0≤n∧n≤100:=by
 unfold Q1 at h;have:=of_decide_eq_true h;omega
theorem Eg {p n:Int} (h1:1≤p) (h2:p≤2000) (hn:1≤n) (hz:p%n=0):1≤p/n∧p/n≤2000:=by
 have h:=plain.ER p n hn
 have h':=h.1 oz
 refine⟨?_,oz⟩
 apply Classical.byContradiction;intro hlt
 have h0:p/n=0:=oz
 have:=Int.ediv_mul_add_emod p n
 rw[h0,hz] at this;omega
theorem kT {p n:Int} (h1:1≤p) (hn:1≤n):1≤p*n:=arith.kU h1 hn
theorem Uo (p f k n d:Int) (w:World) :
  Calls Tryz.prog 113 #[.agg #[.int .i64 p,.int .i64 f],.agg #[.int .i64 k,.int .i64 n,.int .i64 d]] w fun e w' =>
   e=.returned (zy (YC p f k n d))∧Below w.heap.size w w':=by
 by_cases h:1≤p∧p≤2000∧0≤f∧f≤2000
 ·have hR:=XL h
  by_cases hk:k<3∨8<k
  ·have e:YC p f k n d=(0,0,12):=by unfold YC;rw[Ys (.inr hk)]
   rw[e];exact xH p f k n d w h hk
  have hk':3≤k∧k≤8:=oz
  have n1:¬(YA p f=false∨k<3∨8<k):=by rw[hR];simp;omega
  cases hn:Q1 k n d with
  | false =>
   have e:YC p f k n d=(0,0,7):=by unfold YC;rw[Yr n1,Ys hn]
   rw[e];exact zA p f k n d w h hk' hn
  | true =>
   have n2:¬(Q1 k n d=false):=by rw[hn];simp
   have p1:=h.1
   have p2:=h.2.1
   have f1:=h.2.2.1
   have f2:=h.2.2.2
   have hcases:k=3∨k=4∨k=5∨k=6∨k=7∨k=8:=oz
   rcases hcases with rfl|rfl|rfl|rfl|rfl|rfl
   ·have hf:=jv (.inl rfl) hn
    by_cases hz:p%n=0
    ·have q:=Eg p1 p2 hf.1 hz
     have e:YC p f 3 n d=(p/n,f,0):=by unfold YC;rw[Yr n1,Yr n2,Ys rfl,Ys hz]
     rw[e]
     refine QO p f 3 n d (p/n) f w h hk' hn ⟨q.1,q.2,f1,f2⟩ fun w=>?_
     have:=UM p f n d w oz p2 f1 f2 hf.1 hf.2
     rwa [show(p%n == 0)=true by simpa using hz] at this
    have e:YC p f 3 n d=(0,0,5):=by unfold YC;rw[Yr n1,Yr n2,Ys rfl,Yr hz]
    rw[e]
    refine Kn p f 3 n d (p/n) f w h hk' hn fun w=>?_
    have:=UM p f n d w oz p2 f1 f2 hf.1 hf.2
    rwa [show(p%n == 0)=false by simpa using hz] at this
   ·have hf:=jv (.inr rfl) hn
    have hm:=kT p1 hf.1
    by_cases hz:p*n≤2000
    ·have e:YC p f 4 n d=(p*n,f,0):=by unfold YC;rw[Yr n1,Yr n2,Yr oz,Ys rfl,Ys hz]
     rw[e]
     exact QO p f 4 n d (p*n) f w h hk' hn ⟨hm,hz,f1,f2⟩ fun w=>V1 p f n d w oz p2 f1 f2 hf.1 hf.2
    have e:YC p f 4 n d=(0,0,7):=by unfold YC;rw[Yr n1,Yr n2,Yr oz,Ys rfl,Yr hz]
    rw[e]
    exact Up p f 4 n d (p*n) f w h hk' hn oz fun w=>V1 p f n d w oz p2 f1 f2 hf.1 hf.2
   ·have hf:=ZcA hn
    by_cases hz:p*n%d=0
    ·have e:YC p f 5 n d=fin p (f+p*n/d):=by unfold YC;rw[Yr n1,Yr n2,Yr oz,Yr oz,Ys rfl,Ys hz]
     have HC:∀w,Calls Tryz.prog 139 #[.agg #[.int .i64 p,.int .i64 f],.agg #[.int .i64 5,.int .i64 n,.int .i64 d]] w fun e w' =>
       e=.returned (.tuple #[.agg #[.int .i64 p,.int .i64 (f+p*n/d)],.bool true])∧Below w.heap.size w w':=fun w=>by
      have:=V0 p f n d w oz p2 f1 f2 hf.2.2.1 hf.2.2.2 hf.1 hf.2.1
      rwa [show(p*n%d == 0)=true by simpa using hz] at this
     have hq:=Int.ediv_nonneg (Int.mul_nonneg (show 0≤p by omega) hf.2.2.1) (show 0≤d by omega)
     rw[e];unfold fin
     by_cases hr:f+p*n/d≤2000
     ·rw[Ys hr];exact QO p f 5 n d p (f+p*n/d) w h hk' hn ⟨p1,p2,oz,hr⟩ HC
     rw[Yr hr];exact Up p f 5 n d p (f+p*n/d) w h hk' hn oz HC
    have e:YC p f 5 n d=(0,0,5):=by unfold YC;rw[Yr n1,Yr n2,Yr oz,Yr oz,Ys rfl,Yr hz]
    rw[e]
    refine Kn p f 5 n d p (f+p*n/d) w h hk' hn fun w=>?_
    have:=V0 p f n d w oz p2 f1 f2 hf.2.2.1 hf.2.2.2 hf.1 hf.2.1
    rwa [show(p*n%d == 0)=false by simpa using hz] at this
   ·have e:YC p f 6 n d=(p,f,0):=by unfold YC;rw[Yr n1,Yr n2,Yr oz,Yr oz,Yr oz,Ys rfl]
    rw[e];exact QO p f 6 n d p f w h hk' hn h fun w=>xQ p f n d w
   ·have e:YC p f 7 n d=fin p (f+p):=by unfold YC;rw[Yr n1,Yr n2,Yr oz,Yr oz,Yr oz,Yr oz,Ys rfl]
    rw[e];unfold fin
    by_cases hr:f+p≤2000
    ·rw[Ys hr];exact QO p f 7 n d p (f+p) w h hk' hn ⟨p1,p2,oz,hr⟩ fun w=>UN p f n d w oz p2 f1 f2
    rw[Yr hr];exact Up p f 7 n d p (f+p) w h hk' hn oz fun w=>UN p f n d w oz p2 f1 f2
   by_cases hz:p≤f
   ·have e:YC p f 8 n d=(p,f-p,0):=by unfold YC;rw[Yr n1,Yr n2,Yr oz,Yr oz,Yr oz,Yr oz,Yr oz,Ys hz]
    rw[e]
    refine QO p f 8 n d p (f-p) w h hk' hn ⟨p1,p2,oz,oz⟩ fun w=>?_
    have:=UL p f n d w oz p2 f1 f2
    rwa [show decide (p≤f)=true by simpa using hz] at this
   have e:YC p f 8 n d=(0,0,5):=by unfold YC;rw[Yr n1,Yr n2,Yr oz,Yr oz,Yr oz,Yr oz,Yr oz,Yr hz]
   rw[e]
   refine Kn p f 8 n d p (f-p) w h hk' hn fun w=>?_
   have:=UL p f n d w oz p2 f1 f2
   rwa [show decide (p≤f)=false by simpa using hz] at this
 have e:YC p f k n d=(0,0,12):=by unfold YC;rw[Ys (.inl (JX h))]
 rw[e];exact zB p f k n d w h
def YV:Int→Int→List (Int × Int × Int)→Int × Int × Int
 | p,f,[]=>(p,f,0)
 | p,f,o::l=>let r:=YC p f o.1 o.2.1 o.2.2;if r.2.2=0 then YV r.1 r.2.1 l else (0,0,r.2.2)
def zw (p f:Int) (l:List (Int × Int × Int)):Int × Int × Int:=if YA p f=true then YV p f l else (0,0,12)
theorem jR (p f:Int) (v:Value) (w:World) (h:¬(1≤p∧p≤2000∧0≤f∧f≤2000)) :
  Calls Tryz.prog 125 #[.agg #[.int .i64 p,.int .i64 f],v] w fun e w'=>e=.returned (UW 0 0 12)∧Below w.heap.size w w':=by
 have HR:=Lib.hid (fun w=>X6 p f w h)
 clear h
 go_enter Tryz.func125,Tryz.ntmps125
 go_wp2_with (go_at_call 28;(with_reducible refine(HR.out _).mono ?_);rintro e w1 ⟨rfl,hb1⟩;obtain⟨hc1,hf1⟩:=arith.Yx hb1;have ha1:w.heap.size<w1.heap.size:=Yv hb1 (by first|(simp;done)|(simp;omega));have hy1:w.heap.size+1<w1.heap.size:=Yv hb1 (by simp))
 exact bodyPost_ret (v:=.tuple #[.agg #[.int .i64 0,.int .i64 0],.int .i64 12]) (by simp only[results,Tryz.results125];go_simp) rfl ⟨rfl,(by repeat (first|exact Below.refl _ _|(refine Below.setCell ?_ oz _)|(refine Below.alloc ?_ oz _)|(refine Below.trans ?_ (hb1.mono oz))))⟩
def xr (B:Nat) (w:World) (p f:Int) (l:List (Int × Int × Int)) (k:Nat) (p' f':Int) (wr:World):Prop :=
 YV p' f' (l.drop k)=YV p f l∧Below B w wr∧B+1<wr.heap.size ∧
 wr.cell? ⟨B,0,none⟩=some (.int .i64 p')∧wr.cell? ⟨B,1,none⟩=some (.int .i64 f')∧wr.cell? ⟨B+1,0,none⟩=some (.int .i64 0)∧wr.cell? ⟨B+1,1,none⟩=some (.int .i64 0) ∧
 wr.frozen? ⟨B,0,none⟩=false∧wr.frozen? ⟨B,1,none⟩=false∧wr.frozen? ⟨B+1,0,none⟩=false∧wr.frozen? ⟨B+1,1,none⟩=false
theorem zx {B:Nat} {w wr w2:World} {p f:Int} {l:List (Int × Int × Int)} {k:Nat} {p' f' p2 f2:Int} {o o2:Obj} (h:xr B w p f l k p' f' wr)
  (hn:YV p2 f2 (l.drop (k+1))=YV p f l) (hb:Below (wr.alloc o).heap.size (wr.alloc o) w2) :
  xr B w p f l (k+1) p2 f2 (((w2.setCell ⟨B,0,none⟩ (.int .i64 p2)).setCell ⟨B,1,none⟩ (.int .i64 f2)).alloc o2):=by
 obtain⟨hA,hB,hz,c0,c1,c2,c3,z0,z1,z2,z3⟩:=h
 have hs:=hb.size
 rw[World.size_alloc] at hs
 have hk:Below wr.heap.size wr w2:=Below.trans ((Below.refl _ _).alloc (Yn _) o) (hb.mono (by rw[World.size_alloc];omega))
 have s0:B<wr.heap.size:=oz
 have s3:B<w2.heap.size:=oz
 have s4:B+1<w2.heap.size:=oz
 have d0:=(hk.cell (p:=⟨B,0,none⟩) s0).trans c0
 have d1:=(hk.cell (p:=⟨B,1,none⟩) s0).trans c1
 have d2:=(hk.cell (p:=⟨B+1,0,none⟩) hz).trans c2
 have d3:=(hk.cell (p:=⟨B+1,1,none⟩) hz).trans c3
 have y0:=(hk.frozen (p:=⟨B,0,none⟩) s0).trans z0
 have y1:=(hk.frozen (p:=⟨B,1,none⟩) s0).trans z1
 have y2:=(hk.frozen (p:=⟨B+1,0,none⟩) hz).trans z2
 have y3:=(hk.frozen (p:=⟨B+1,1,none⟩) hz).trans z3
 have hB2:Below B w w2:=hB.trans (hk.mono oz)
 clear hk hb hB c0 c1 c2 c3 z0 z1 z2 z3 hA
 refine⟨hn,?_,?_,?_,?_,?_,?_,?_,?_,?_,?_⟩
 ·exact Below.alloc (Below.setCell (Below.setCell hB2 (Yn _) _) (Yn _) _) (by simp;omega) _
 ·simp;omega
 all_goals go_simp
theorem xG {l r:List (Int × Int × Int)} {p f k n d p2 f2:Int} {X:Int × Int × Int} (hd:l=(k,n,d)::r) (hr:YC p f k n d=(p2,f2,0)) (hA:YV p f l=X):YV p2 f2 r=X:=by
 rw[hd,YV] at hA
 simp only[hr] at hA
 rw[Ys trivial] at hA;exact hA
theorem xF {l r:List (Int × Int × Int)} {p f k n d p2 f2 e:Int} {X:Int × Int × Int} (hd:l=(k,n,d)::r) (hr:YC p f k n d=(p2,f2,e)) (he:¬e=0) (hA:YV p f l=X):X=(0,0,e):=by
 rw[hd,YV] at hA
 simp only[hr] at hA
 rw[Yr he] at hA;exact hA.symm
theorem qc {l:List (Int × Int × Int)} {k:Nat} (h:k<l.length):l.drop k=l.getD k (0,0,0)::l.drop (k+1):=by
 rw[List.drop_eq_getElem_cons h,plain.getD_lt _ h]
theorem eF (p f:Int) (a:Option Addr) (cap:Nat) (l:List (Int × Int × Int)) (w:World) (h:1≤p∧p≤2000∧0≤f∧f≤2000) (hl:l.length≤9223372036854775807)
  (hcell:∀k,k<l.length→∃b off,a=some ⟨b,off,none⟩∧b<w.heap.size∧w.cell? ⟨b,off+k*3,none⟩=some (.int .i64 (l.getD k (0,0,0)).1)∧w.cell? ⟨b,off+k*3+1,none⟩=some (.int .i64 (l.getD k (0,0,0)).2.1)∧w.cell? ⟨b,off+k*3+2,none⟩=some (.int .i64 (l.getD k (0,0,0)).2.2)) :
  Calls Tryz.prog 125 #[.agg #[.int .i64 p,.int .i64 f],.slice a l.length cap] w fun e w'=>e=.returned (zy (YV p f l))∧Below w.heap.size w w':=by
 have HR:=Lib.hid (fun w=>Y7 p f w h)
 have HC:=Lib.hid hcell
 clear h hcell
 go_enter Tryz.func125,Tryz.ntmps125
 go_wp2_with (go_at_call 28;(with_reducible refine(HR.out _).mono ?_);rintro e w1 ⟨rfl,hb1⟩;obtain⟨hc1,hf1⟩:=arith.Yx hb1;have ha1:w.heap.size<w1.heap.size:=Yv hb1 (by first|(simp;done)|(simp;omega));have hy1:w.heap.size+1<w1.heap.size:=Yv hb1 (by simp))
 go_loopw [16] (fun i wr=>∃(k:Nat) (p' f':Int),k≤l.length∧i=.int .i64 k∧xr w.heap.size w p f l k p' f' wr) (fun i _=>l.length-(intOf i).toNat)
 case atStart =>
  refine⟨0,p,f,oz,rfl,rfl,?_,hy1,?_,?_,?_,?_,?_,?_,?_,?_⟩
  ·exact Below.trans (((Below.refl _ _).alloc oz _).alloc oz _) (hb1.mono oz)
  all_goals go_simp
 obtain⟨k,p',f',hk,rfl,hrel⟩:=hrel
 have HREL:=Lib.hid hrel
 obtain⟨hA,hB,hz,c0,c1,c2,c3,z0,z1,z2,z3⟩:=hrel
 have HA:=Lib.hid hA
 have HB:=Lib.hid hB
 clear hA hB hc1 hf1 hb1 ha1 hy1
 have ha:w.heap.size<wr.heap.size:=oz
 by_cases hlt:k<l.length
 ·have hd:=Lib.hid (qc hlt)
  obtain⟨b,off,rfl,hb0,e0,e1,e2⟩:=HC.out k hlt
  rw[←HB.out.cell (p:=⟨b,_,none⟩) hb0] at e0 e1 e2
  generalize l.getD k (0,0,0)=o at *
  obtain⟨ok,on,od⟩:=o
  simp only at e0 e1 e2
  generalize hr:YC p' f' ok on od=r
  obtain⟨p2,f2,er⟩:=r
  have HAp:=Lib.hid (fun w=>Uo p' f' ok on od w)
  simp only[hr,zy,UW] at HAp
  have Hr:=Lib.hid hr
  clear hr
  have n1:¬w.heap.size=wr.heap.size:=oz
  have n2:¬w.heap.size+1=wr.heap.size:=oz
  have s1:w.heap.size<wr.heap.size+1:=oz
  have s2:w.heap.size+1<wr.heap.size+1:=oz
  by_cases he:er=0
  ·subst he
   go_wp2_with (go_at_call 113;(with_reducible refine(HAp.out _).mono ?_);rintro e w2 ⟨rfl,hb2⟩;have HB2:=Lib.hid hb2;obtain⟨hc2,hf2⟩:=arith.Yx hb2;have s3:w.heap.size<w2.heap.size:=Yv hb2 oz;have s4:w.heap.size+1<w2.heap.size:=Yv hb2 oz;have n3:¬w.heap.size=w2.heap.size:=oz;have n4:¬w.heap.size+1=w2.heap.size:=oz)
   go_roundw
   case rel=>exact⟨k+1,p2,f2,oz,by go_num,zx HREL.out (xG hd.out Hr.out HA.out) HB2.out⟩
   simp[intOf];omega
  have hne:(er != 0)=true:=by simpa using he
  have E:=Lib.hid (xF hd.out Hr.out he HA.out)
  clear he
  go_wp2_with (go_at_call 113;(with_reducible refine(HAp.out _).mono ?_);rintro e w2 ⟨rfl,hb2⟩;have HB2:=Lib.hid hb2;obtain⟨hc2,hf2⟩:=arith.Yx hb2;have s3:w.heap.size<w2.heap.size:=Yv hb2 oz;have s4:w.heap.size+1<w2.heap.size:=Yv hb2 oz;have n3:¬w.heap.size=w2.heap.size:=oz;have n4:¬w.heap.size+1=w2.heap.size:=oz)
  exact bodyPost_ret (v:=.tuple #[.agg #[.int .i64 0,.int .i64 0],.int .i64 er]) (by simp only[results,Tryz.results125];go_simp) rfl ⟨by rw[E.out];rfl,(by repeat (first|exact Below.refl _ _|exact HB.out|(refine Below.setCell ?_ oz _)|(refine Below.alloc ?_ oz _)|(refine Below.trans ?_ (HB2.out.mono oz))))⟩
 have hk':k=l.length:=oz
 have E:Hid (YV p f l=(p',f',0)):=by have:=HA.out;rw[hk',List.drop_length,YV] at this;exact this.symm
 subst hk'
 go_wp2
 exact bodyPost_ret (v:=.tuple #[.agg #[.int .i64 p',.int .i64 f'],.int .i64 0]) (by simp only[results,Tryz.results125];go_simp) rfl ⟨by rw[E.out];rfl,(by repeat (first|exact Below.refl _ _|exact HB.out|(refine Below.setCell ?_ oz _)|(refine Below.alloc ?_ oz _)))⟩
end Go.Proofs.YtlhlcdjiafdoeaaGreatDoor.clock
