/- Parts of the proof. -/
import Derived.Test.YtdgifkjaflfdeaaGreatDoorV00
set_option linter.all false
set_option maxRecDepth 100000
set_option maxHeartbeats 16000000
namespace Go.Proofs.YtdgifkjaflfdeaaGreatDoor.clock
open Tryz
open Go.RowKit
def QX(k n d:Int):Bool:=decide ((k=3∨k=4→1≤n∧n≤100)∧(k=5→1≤d∧d≤100∧0≤n∧n≤100))
theorem yO{k n d:Int}(h:(k=3∨k=4→1≤n∧n≤100)∧(k=5→1≤d∧d≤100∧0≤n∧n≤100)):QX k n d=true:=by unfold QX;exact Yt h
theorem ud{k n d:Int}(h:¬((k=3∨k=4→1≤n∧n≤100)∧(k=5→1≤d∧d≤100∧0≤n∧n≤100))):QX k n d=false:=by
 unfold QX;exact Ys h
theorem UM{w:World}(o:Obj):Below w.heap.size w (w.alloc o):=(Below.refl _ _).alloc (Yo _) _
theorem ZdU(k n d:Int)(w:World)(f:k=3∨k=4) :
  Calls prog 208 #[.agg #[.int .i64 k,.int .i64 n,.int .i64 d]] w fun e w'=>e=.returned (.bool (kB n 1 100))∧Below w.heap.size w w':=by
 rcases f with rfl|rfl
 all_goals
  go_enter func208,ntmps208;go_wp2_with (go_at_call 86;refine(Ql _ _ _ _).mono ?_;rintro e w' ⟨rfl,rfl⟩);go_ret;exact⟨rfl,UM _⟩
theorem Zfn(n d:Int)(w:World)(h:1≤d∧d≤100) :
  Calls prog 208 #[.agg #[.int .i64 5,.int .i64 n,.int .i64 d]] w fun e w'=>e=.returned (.bool (kB n 0 100))∧Below w.heap.size w w':=by
 have f:=Lib.hid (fun w=>Vk d 1 100 w h.1 h.2);clear h;go_enter func208,ntmps208;go_wp2_with (first|(go_at_call 86;with_reducible refine(f.out _).mono ?_;rintro e w' ⟨rfl,rfl⟩)|(go_at_call 86;refine(Ql _ _ _ _).mono ?_;rintro e w' ⟨rfl,rfl⟩));go_ret;exact⟨rfl,UM _⟩
theorem ZbN(n d:Int)(w:World)(h:d<1∨100<d) :
  Calls prog 208 #[.agg #[.int .i64 5,.int .i64 n,.int .i64 d]] w fun e w'=>e=.returned (.bool false)∧Below w.heap.size w w':=by
 have f:=Lib.hid (fun w=>Ua d 1 100 w h);clear h;go_enter func208,ntmps208;go_wp2_with (first|(go_at_call 86;with_reducible refine(f.out _).mono ?_;rintro e w' ⟨rfl,rfl⟩));go_ret;exact⟨rfl,UM _⟩
theorem ZbO(k n d:Int)(w:World)(f:k=6∨k=7∨k=8) :
  Calls prog 208 #[.agg #[.int .i64 k,.int .i64 n,.int .i64 d]] w fun e w'=>e=.returned (.bool true)∧Below w.heap.size w w':=by
 rcases f with rfl|rfl|rfl
 all_goals
  go_enter func208,ntmps208;go_wp2;go_ret;exact⟨rfl,UM _⟩
theorem Jj(k n d:Int)(w:World)(m:3≤k∧k≤8) :
  Calls prog 208 #[.agg #[.int .i64 k,.int .i64 n,.int .i64 d]] w fun e w'=>e=.returned (.bool (QX k n d))∧Below w.heap.size w w':=by
 by_cases g:k=3∨k=4
 ·have H:=ZdU k n d w g;by_cases f:1≤n∧n≤100
  ·rw[GH f.1 f.2] at H;rw[yO oz];exact H
  rw[za oz] at H;rw[ud oz];exact H
 by_cases j:k=5
 ·subst j;by_cases hd:1≤d∧d≤100
  ·have H:=Zfn n d w hd;by_cases f:0≤n∧n≤100
   ·rw[GH f.1 f.2] at H;rw[yO oz];exact H
   rw[za oz] at H;rw[ud oz];exact H
  rw[ud oz];exact ZbN n d w oz
 rw[yO oz];exact ZbO k n d w oz
theorem Zcl{p n:Int}(f:0≤p)(m:p≤2000)(g:-1≤n)(j:n≤100):-2000≤p*n∧p*n≤200000:=by
 have a:p*n≤p*100:=Int.mul_le_mul_of_nonneg_left j f;have b:p*(-1)≤p*n:=Int.mul_le_mul_of_nonneg_left g f;omega
theorem ZfV{x d:Int}(f:-2000≤x)(g:x≤200000)(hd:1≤d):-2000≤x/d∧x/d≤200000:=by
 have:=plain.yN x d hd;by_cases h:0≤x
 ·have:=this.1 h;omega
 have:=this.2 oz;omega
theorem EG(p n d:Int)(w:World)(g:0≤p)(j:p≤2000)(q:-1≤n)(v:n≤100)(x:1≤d)(y:d≤9223372036854775807) :
  Calls prog 239 #[.int .i64 p,.int .i64 n,.int .i64 d] w fun e w'=>e=.returned (.tuple #[.int .i64 (p*n/d),.bool (p*n%d == 0)])∧∃m,w'=w.drewN m:=by
 have z:=Zcl g j q v;have C:wrap64 (p*n)=p*n:=IntWalk.wrap64_in _ oz;have f:=Lib.hid (fun w=>arith.Zah (p*n) d w x oz oz y);go_enter func239,ntmps239;go_wp2_with (go_at_call 256;refine(f.out _).mono ?_;rintro e w' ⟨rfl,A,rfl⟩);go_ret2;exact⟨rfl,_,rfl⟩
def shB(p f n d:Int):Bool:=decide (p*n%d=0∧0≤f+p*n/d)
theorem KG(p f n d:Int)(w:World)(y:0≤p)(A:p≤2000)(f1:0≤f)(I:f≤2000)(C:-1≤n)(D:n≤100)(F:1≤d)(J:d≤100) :
  Calls prog 240 #[.agg #[.int .i64 p,.int .i64 f],.int .i64 n,.int .i64 d] w fun e w' =>
   e=.returned (.tuple #[.agg #[.int .i64 p,.int .i64 (f+p*n/d)],.bool (shB p f n d)])∧Below w.heap.size w w':=by
 have m:=Zcl y A C D;have x:=ZfV m.1 m.2 F;have L:=x.1;have M:=x.2;have j:=Lib.hid (fun w=>EG p n d w y A C D F oz);clear m x;by_cases g:p*n%d=0
 ·have z:(p*n%d == 0)=true:=by simpa using g
  by_cases q:0≤f+p*n/d
  ·have E:Hid (shB p f n d=true):=by unfold shB;exact Yt ⟨g,q⟩
   clear g;go_enter func240,ntmps240;go_wp2_with (go_at_call 239;refine(j.out _).mono ?_;rintro e w' ⟨rfl,G,rfl⟩);exact bodyPost_ret (v:=.tuple #[.agg #[.int .i64 p,.int .i64 (f+p*n/d)],.bool true]) (by simp[results,results240,go_sem]<;>omega) rfl ⟨by rw[E.out],(by repeat (first|exact Below.refl _ _|(refine Below.setCell ?_ (by first|(simp;done)|(simp;omega)) _)|(refine Below.alloc ?_ (by first|(simp;done)|(simp;omega)) _)|(refine arith.below_drewN ?_ _)))⟩
  have E:Hid (shB p f n d=false):=by unfold shB;exact Ys (fun h=>q h.2)
  clear g;have H:f+p*n/d<0:=oz;clear q;go_enter func240,ntmps240;go_wp2_with (go_at_call 239;refine(j.out _).mono ?_;rintro e w' ⟨rfl,G,rfl⟩);exact bodyPost_ret (v:=.tuple #[.agg #[.int .i64 p,.int .i64 (f+p*n/d)],.bool false]) (by simp[results,results240,go_sem]<;>omega) rfl ⟨by rw[E.out],(by repeat (first|exact Below.refl _ _|(refine Below.setCell ?_ (by first|(simp;done)|(simp;omega)) _)|(refine Below.alloc ?_ (by first|(simp;done)|(simp;omega)) _)|(refine arith.below_drewN ?_ _)))⟩
 have z:(p*n%d == 0)=false:=by simpa using g
 have E:Hid (shB p f n d=false):=by unfold shB;exact Ys (fun h=>g h.1)
 clear g;go_enter func240,ntmps240;go_wp2_with (go_at_call 239;refine(j.out _).mono ?_;rintro e w' ⟨rfl,G,rfl⟩);exact bodyPost_ret (v:=.tuple #[.agg #[.int .i64 p,.int .i64 (f+p*n/d)],.bool false]) (by simp[results,results240,go_sem]<;>omega) rfl ⟨by rw[E.out],(by repeat (first|exact Below.refl _ _|(refine Below.setCell ?_ (by first|(simp;done)|(simp;omega)) _)|(refine Below.alloc ?_ (by first|(simp;done)|(simp;omega)) _)|(refine arith.below_drewN ?_ _)))⟩
theorem KW(p f n d:Int)(w:World)(m:0≤p)(q:p≤2000)(f1:0≤f)(y:f≤2000)(x:1≤n)(z:n≤100) :
  Calls prog 209 #[.agg #[.int .i64 p,.int .i64 f],.agg #[.int .i64 3,.int .i64 n,.int .i64 d]] w fun e w' =>
   e=.returned (.tuple #[.agg #[.int .i64 (p/n),.int .i64 f],.bool (p%n == 0)])∧Below w.heap.size w w':=by
 have g:=Lib.hid (fun w=>EG p 1 n w m q oz oz x oz);have j:p*1=p:=oz;rw[j] at g;clear j;go_enter func209,ntmps209;go_wp2_with (go_at_call 239;refine(g.out _).mono ?_;rintro e w' ⟨rfl,A,rfl⟩);exact bodyPost_ret (v:=.tuple #[.agg #[.int .i64 (p/n),.int .i64 f],.bool (p%n == 0)]) (by simp[results,results209,go_sem]) rfl ⟨rfl,(by repeat (first|exact Below.refl _ _|(refine Below.setCell ?_ (by first|(simp;done)|(simp;omega)) _)|(refine Below.alloc ?_ (by first|(simp;done)|(simp;omega)) _)|(refine arith.below_drewN ?_ _)))⟩
theorem UR(p f n d:Int)(w:World)(q:0≤p)(x:p≤2000)(f1:0≤f)(y:f≤2000)(z:1≤n)(A:n≤100) :
  Calls prog 209 #[.agg #[.int .i64 p,.int .i64 f],.agg #[.int .i64 4,.int .i64 n,.int .i64 d]] w fun e w' =>
   e=.returned (.tuple #[.agg #[.int .i64 (p*n),.int .i64 f],.bool true])∧Below w.heap.size w w':=by
 have g:=Lib.hid (fun w=>EG p n 1 w q x oz oz oz oz);have j:p*n/1=p*n:=oz;have m:(p*n%1 == 0)=true:=by simp
 rw[j,m] at g;clear j m;go_enter func209,ntmps209;go_wp2_with (go_at_call 239;refine(g.out _).mono ?_;rintro e w' ⟨rfl,C,rfl⟩);exact bodyPost_ret (v:=.tuple #[.agg #[.int .i64 (p*n),.int .i64 f],.bool true]) (by simp[results,results209,go_sem]) rfl ⟨rfl,(by repeat (first|exact Below.refl _ _|(refine Below.setCell ?_ (by first|(simp;done)|(simp;omega)) _)|(refine Below.alloc ?_ (by first|(simp;done)|(simp;omega)) _)|(refine arith.below_drewN ?_ _)))⟩
theorem UQ(p f n d:Int)(w:World)(m:0≤p)(y:p≤2000)(f1:0≤f)(x:f≤2000)(z:0≤n)(A:n≤100)(C:1≤d)(D:d≤100) :
  Calls prog 209 #[.agg #[.int .i64 p,.int .i64 f],.agg #[.int .i64 5,.int .i64 n,.int .i64 d]] w fun e w' =>
   e=.returned (.tuple #[.agg #[.int .i64 p,.int .i64 (f+p*n/d)],.bool (p*n%d == 0)])∧Below w.heap.size w w':=by
 have q:shB p f n d=(p*n%d == 0):=by
  have F:=Int.mul_nonneg m z;have H:=Int.ediv_nonneg F (show 0≤d by omega);unfold shB;by_cases g:p*n%d=0
  ·rw[Yt ⟨g,oz⟩];simp[g]
  rw[Ys (fun h=>g h.1)];simp[g]
 have j:=Lib.hid (fun w=>KG p f n d w m y f1 x oz A C D);rw[q] at j;clear q;go_enter func209,ntmps209;go_wp2_with (go_at_call 240;refine(j.out _).mono ?_;rintro e I ⟨rfl,hb⟩;obtain⟨E,G⟩:=arith.YB hb);exact bodyPost_ret (v:=.tuple #[.agg #[.int .i64 p,.int .i64 (f+p*n/d)],.bool (p*n%d == 0)]) (by simp[results,results209,go_sem,E]) rfl ⟨rfl,(by repeat (first|exact Below.refl _ _|(refine Below.setCell ?_ (by first|(simp;done)|(simp;omega)) _)|(refine Below.alloc ?_ (by first|(simp;done)|(simp;omega)) _)|(refine arith.below_drewN ?_ _)|(refine Below.trans ?_ (hb.mono (by first|(simp;done)|(simp;omega))))))⟩
theorem vH(p f n d:Int)(w:World) :
  Calls prog 209 #[.agg #[.int .i64 p,.int .i64 f],.agg #[.int .i64 6,.int .i64 n,.int .i64 d]] w fun e w' =>
   e=.returned (.tuple #[.agg #[.int .i64 p,.int .i64 f],.bool true])∧Below w.heap.size w w':=by
 go_enter func209,ntmps209;go_wp2;exact bodyPost_ret (v:=.tuple #[.agg #[.int .i64 p,.int .i64 f],.bool true]) (by simp[results,results209,go_sem]) rfl ⟨rfl,(by repeat (first|exact Below.refl _ _|(refine Below.setCell ?_ (by first|(simp;done)|(simp;omega)) _)|(refine Below.alloc ?_ (by first|(simp;done)|(simp;omega)) _)|(refine arith.below_drewN ?_ _)))⟩
theorem KX(p f n d:Int)(w:World)(x:0≤p)(y:p≤2000)(f1:0≤f)(q:f≤2000) :
  Calls prog 209 #[.agg #[.int .i64 p,.int .i64 f],.agg #[.int .i64 7,.int .i64 n,.int .i64 d]] w fun e w' =>
   e=.returned (.tuple #[.agg #[.int .i64 p,.int .i64 (f+p)],.bool true])∧Below w.heap.size w w':=by
 have m:shB p f 1 1=true:=by unfold shB;exact Yt ⟨oz,oz⟩
 have j:p*1/1=p:=oz;have g:=Lib.hid (fun w=>KG p f 1 1 w x y f1 q oz oz oz oz);rw[m,j] at g;clear m j;go_enter func209,ntmps209;go_wp2_with (go_at_call 240;refine(g.out _).mono ?_;rintro e C ⟨rfl,hb⟩;obtain⟨z,A⟩:=arith.YB hb);exact bodyPost_ret (v:=.tuple #[.agg #[.int .i64 p,.int .i64 (f+p)],.bool true]) (by simp[results,results209,go_sem,z]) rfl ⟨rfl,(by repeat (first|exact Below.refl _ _|(refine Below.setCell ?_ (by first|(simp;done)|(simp;omega)) _)|(refine Below.alloc ?_ (by first|(simp;done)|(simp;omega)) _)|(refine arith.below_drewN ?_ _)|(refine Below.trans ?_ (hb.mono (by first|(simp;done)|(simp;omega))))))⟩
theorem KV(p f n d:Int)(w:World)(x:0≤p)(y:p≤2000)(f1:0≤f)(q:f≤2000) :
  Calls prog 209 #[.agg #[.int .i64 p,.int .i64 f],.agg #[.int .i64 8,.int .i64 n,.int .i64 d]] w fun e w' =>
   e=.returned (.tuple #[.agg #[.int .i64 p,.int .i64 (f-p)],.bool (decide (p≤f))])∧Below w.heap.size w w':=by
 have m:shB p f (-1) 1=decide (p≤f):=by
  unfold shB;by_cases h:p≤f
  ·rw[Yt h];exact Yt ⟨oz,oz⟩
  rw[Ys h];exact Ys oz
 have j:f+p*-1/1=f-p:=oz;have g:=Lib.hid (fun w=>KG p f (-1) 1 w x y f1 q oz oz oz oz);rw[m,j] at g;clear m j;go_enter func209,ntmps209;go_wp2_with (go_at_call 240;refine(g.out _).mono ?_;rintro e C ⟨rfl,hb⟩;obtain⟨z,A⟩:=arith.YB hb);exact bodyPost_ret (v:=.tuple #[.agg #[.int .i64 p,.int .i64 (f-p)],.bool (decide (p≤f))]) (by simp[results,results209,go_sem,z]) rfl ⟨rfl,(by repeat (first|exact Below.refl _ _|(refine Below.setCell ?_ (by first|(simp;done)|(simp;omega)) _)|(refine Below.alloc ?_ (by first|(simp;done)|(simp;omega)) _)|(refine arith.below_drewN ?_ _)|(refine Below.trans ?_ (hb.mono (by first|(simp;done)|(simp;omega))))))⟩
def Gl(p f e:Int):Value:=.tuple #[.agg #[.int .i64 p,.int .i64 f],.int .i64 e]
theorem Yy{B k:Nat}{a w:World}(h:Below B a w)(hk:k<a.heap.size):k<w.heap.size:=Yp hk h.size
theorem xP(p f k n d:Int)(w:World)(h:¬(1≤p∧p≤2000∧0≤f∧f≤2000)) :
  Calls prog 170 #[.agg #[.int .i64 p,.int .i64 f],.agg #[.int .i64 k,.int .i64 n,.int .i64 d]] w fun e w'=>e=.returned (Gl 0 0 12)∧Below w.heap.size w w':=by
 have j:=Lib.hid (fun w=>Qr p f w h);clear h;go_enter func170,ntmps170;go_wp2_with (go_at_call 41;(with_reducible refine(j.out _).mono ?_);rintro e g ⟨rfl,hb1⟩;obtain⟨q,x⟩:=arith.YB hb1;have m:w.heap.size<g.heap.size:=Yy hb1 (by first|(simp;done)|(simp;omega));have z:w.heap.size+1<g.heap.size:=Yy hb1 (by first|(simp;done)|(simp;omega));have y:w.heap.size+1+1<g.heap.size:=Yy hb1 (by simp));exact bodyPost_ret (v:=.tuple #[.agg #[.int .i64 0,.int .i64 0],.int .i64 12]) (by simp only[results,results170];go_simp) rfl ⟨rfl,(by repeat (first|exact Below.refl _ _|(refine Below.setCell ?_ oz _)|(refine Below.alloc ?_ oz _)|(refine arith.below_drewN ?_ _)|(refine Below.trans ?_ (hb1.mono oz))))⟩
theorem vw(p f k n d:Int)(w:World)(h:1≤p∧p≤2000∧0≤f∧f≤2000)(g:k<3∨8<k) :
  Calls prog 170 #[.agg #[.int .i64 p,.int .i64 f],.agg #[.int .i64 k,.int .i64 n,.int .i64 d]] w fun e w'=>e=.returned (Gl 0 0 12)∧Below w.heap.size w w':=by
 have m:=Lib.hid (fun w=>Xp p f w h);clear h;rcases g with g|g
 all_goals
  go_enter func170,ntmps170;go_wp2_with (go_at_call 41;(with_reducible refine(m.out _).mono ?_);rintro e j ⟨rfl,hb1⟩;obtain⟨x,y⟩:=arith.YB hb1;have q:w.heap.size<j.heap.size:=Yy hb1 (by first|(simp;done)|(simp;omega));have A:w.heap.size+1<j.heap.size:=Yy hb1 (by first|(simp;done)|(simp;omega));have z:w.heap.size+1+1<j.heap.size:=Yy hb1 (by simp))
  all_goals exact bodyPost_ret (v:=.tuple #[.agg #[.int .i64 0,.int .i64 0],.int .i64 12]) (by simp only[results,results170];go_simp) rfl ⟨rfl,(by repeat (first|exact Below.refl _ _|(refine Below.setCell ?_ oz _)|(refine Below.alloc ?_ oz _)|(refine arith.below_drewN ?_ _)|(refine Below.trans ?_ (hb1.mono oz))))⟩
theorem xO(p f k n d:Int)(w:World)(h:1≤p∧p≤2000∧0≤f∧f≤2000)(g:3≤k∧k≤8)(A:QX k n d=false) :
  Calls prog 170 #[.agg #[.int .i64 p,.int .i64 f],.agg #[.int .i64 k,.int .i64 n,.int .i64 d]] w fun e w'=>e=.returned (Gl 0 0 7)∧Below w.heap.size w w':=by
 have C:=Lib.hid (fun w=>Xp p f w h);have z:=Lib.hid (fun w=>Jj k n d w g);rw[A] at z;have L:=g.1;have M:=g.2;clear h g A;go_enter func170,ntmps170;go_wp2_with (first|(go_at_call 41;(with_reducible refine(C.out _).mono ?_);rintro e x ⟨rfl,hb1⟩;obtain⟨E,G⟩:=arith.YB hb1;have j:w.heap.size<x.heap.size:=Yy hb1 (by first|(simp;done)|(simp;omega));have q:w.heap.size+1<x.heap.size:=Yy hb1 (by first|(simp;done)|(simp;omega));have m:w.heap.size+1+1<x.heap.size:=Yy hb1 (by simp))|(go_at_call 208;(with_reducible refine(z.out _).mono ?_);rintro e y ⟨rfl,hb2⟩;obtain⟨F,H⟩:=arith.YB hb2;have D:w.heap.size<y.heap.size:=Yp j hb2.size;have J:w.heap.size+1<y.heap.size:=Yp q hb2.size;have I:w.heap.size+1+1<y.heap.size:=Yp m hb2.size));exact bodyPost_ret (v:=.tuple #[.agg #[.int .i64 0,.int .i64 0],.int .i64 7]) (by simp only[results,results170];go_simp) rfl ⟨rfl,(by repeat (first|exact Below.refl _ _|(refine Below.setCell ?_ oz _)|(refine Below.alloc ?_ oz _)|(refine arith.below_drewN ?_ _)|(refine Below.trans ?_ (hb2.mono oz))|(refine Below.trans ?_ (hb1.mono oz))))⟩
theorem GT(p f k n d Z J:Int)(w:World)(h:1≤p∧p≤2000∧0≤f∧f≤2000)(j:3≤k∧k≤8)(G:QX k n d=true)
  (g:∀w,Calls prog 209 #[.agg #[.int .i64 p,.int .i64 f],.agg #[.int .i64 k,.int .i64 n,.int .i64 d]] w fun e w' =>
   e=.returned (.tuple #[.agg #[.int .i64 Z,.int .i64 J],.bool false])∧Below w.heap.size w w') :
  Calls prog 170 #[.agg #[.int .i64 p,.int .i64 f],.agg #[.int .i64 k,.int .i64 n,.int .i64 d]] w fun e w'=>e=.returned (Gl 0 0 5)∧Below w.heap.size w w':=by
 have I:=Lib.hid (fun w=>Xp p f w h);have F:=Lib.hid (fun w=>Jj k n d w j);rw[G] at F;have H:=Lib.hid g;have k1:=j.1;have k2:=j.2;clear h j G g;go_enter func170,ntmps170;go_wp2_with (first|(go_at_call 41;(with_reducible refine(I.out _).mono ?_);rintro e C ⟨rfl,hb1⟩;obtain⟨M,T⟩:=arith.YB hb1;have m:w.heap.size<C.heap.size:=Yy hb1 (by first|(simp;done)|(simp;omega));have z:w.heap.size+1<C.heap.size:=Yy hb1 (by first|(simp;done)|(simp;omega));have x:w.heap.size+1+1<C.heap.size:=Yy hb1 (by simp))|(go_at_call 208;(with_reducible refine(F.out _).mono ?_);rintro e D ⟨rfl,hb2⟩;obtain⟨O,U⟩:=arith.YB hb2;have q:w.heap.size<D.heap.size:=Yp m hb2.size;have A:w.heap.size+1<D.heap.size:=Yp z hb2.size;have y:w.heap.size+1+1<D.heap.size:=Yp x hb2.size)|(go_at_call 209;(with_reducible refine(H.out _).mono ?_);rintro e E ⟨rfl,hb3⟩;obtain⟨R,V⟩:=arith.YB hb3;have L:w.heap.size<E.heap.size:=Yp q hb3.size;have Y:w.heap.size+1<E.heap.size:=Yp A hb3.size;have X:w.heap.size+1+1<E.heap.size:=Yp y hb3.size));exact bodyPost_ret (v:=.tuple #[.agg #[.int .i64 0,.int .i64 0],.int .i64 5]) (by simp only[results,results170];go_simp) rfl ⟨rfl,(by repeat (first|exact Below.refl _ _|(refine Below.setCell ?_ oz _)|(refine Below.alloc ?_ oz _)|(refine arith.below_drewN ?_ _)|(refine Below.trans ?_ (hb3.mono oz))|(refine Below.trans ?_ (hb2.mono oz))|(refine Below.trans ?_ (hb1.mono oz))))⟩
theorem Kh(p f k n d x m:Int)(w:World)(h:1≤p∧p≤2000∧0≤f∧f≤2000)(q:3≤k∧k≤8)(L:QX k n d=true)(M:¬(1≤x∧x≤2000∧0≤m∧m≤2000))
  (j:∀w,Calls prog 209 #[.agg #[.int .i64 p,.int .i64 f],.agg #[.int .i64 k,.int .i64 n,.int .i64 d]] w fun e w' =>
   e=.returned (.tuple #[.agg #[.int .i64 x,.int .i64 m],.bool true])∧Below w.heap.size w w') :
  Calls prog 170 #[.agg #[.int .i64 p,.int .i64 f],.agg #[.int .i64 k,.int .i64 n,.int .i64 d]] w fun e w'=>e=.returned (Gl 0 0 7)∧Below w.heap.size w w':=by
 have z:=Lib.hid (fun w=>Qr x m w M);have tok:=trivial;have R:=Lib.hid (fun w=>Xp p f w h);have J:=Lib.hid (fun w=>Jj k n d w q);rw[L] at J;have O:=Lib.hid j;have k1:=q.1;have k2:=q.2;clear h q L j;clear M;go_enter func170,ntmps170;go_wp2_with (first|(have _t:=tok;go_at_call 41;(with_reducible refine(R.out _).mono ?_);rintro e H ⟨rfl,hb1⟩;obtain⟨V,ab⟩:=arith.YB hb1;clear tok;have A:w.heap.size<H.heap.size:=Yy hb1 (by first|(simp;done)|(simp;omega));have F:w.heap.size+1<H.heap.size:=Yy hb1 (by first|(simp;done)|(simp;omega));have D:w.heap.size+1+1<H.heap.size:=Yy hb1 (by simp))|(go_at_call 208;(with_reducible refine(J.out _).mono ?_);rintro e I ⟨rfl,hb2⟩;obtain⟨X,ac⟩:=arith.YB hb2;have C:w.heap.size<I.heap.size:=Yp A hb2.size;have G:w.heap.size+1<I.heap.size:=Yp F hb2.size;have E:w.heap.size+1+1<I.heap.size:=Yp D hb2.size)|(go_at_call 209;(with_reducible refine(O.out _).mono ?_);rintro e g ⟨rfl,hb3⟩;obtain⟨Y,ae⟩:=arith.YB hb3;have T:w.heap.size<g.heap.size:=Yp C hb3.size;have ak:w.heap.size+1<g.heap.size:=Yp G hb3.size;have ai:w.heap.size+1+1<g.heap.size:=Yp E hb3.size)|(go_at_call 41;(with_reducible refine(z.out _).mono ?_);rintro e y ⟨rfl,hb4⟩;obtain⟨Z,af⟩:=arith.YB hb4;have U:w.heap.size<y.heap.size:=Yy hb4 (by first|(simp;done)|(simp;omega));have al:w.heap.size+1<y.heap.size:=Yy hb4 (by first|(simp;done)|(simp;omega));have aj:w.heap.size+1+1<y.heap.size:=Yy hb4 (by first|(simp;done)|(simp;omega));have ah:g.heap.size<y.heap.size:=Yy hb4 (by simp);have aa:w.heap.size+1+1<g.heap.size+1:=oz;have ag:¬w.heap.size+1+1=g.heap.size:=oz));exact bodyPost_ret (v:=.tuple #[.agg #[.int .i64 0,.int .i64 0],.int .i64 7]) (by simp only[results,results170];go_simp) rfl ⟨rfl,(by repeat (first|exact Below.refl _ _|(refine Below.setCell ?_ oz _)|(refine Below.alloc ?_ oz _)|(refine arith.below_drewN ?_ _)|(refine Below.trans ?_ (hb4.mono oz))|(refine Below.trans ?_ (hb3.mono oz))|(refine Below.trans ?_ (hb2.mono oz))|(refine Below.trans ?_ (hb1.mono oz))))⟩
theorem Ja(p f k n d j g:Int)(w:World)(h:1≤p∧p≤2000∧0≤f∧f≤2000)(x:3≤k∧k≤8)(L:QX k n d=true)(M:1≤j∧j≤2000∧0≤g∧g≤2000)
  (q:∀w,Calls prog 209 #[.agg #[.int .i64 p,.int .i64 f],.agg #[.int .i64 k,.int .i64 n,.int .i64 d]] w fun e w' =>
   e=.returned (.tuple #[.agg #[.int .i64 j,.int .i64 g],.bool true])∧Below w.heap.size w w') :
  Calls prog 170 #[.agg #[.int .i64 p,.int .i64 f],.agg #[.int .i64 k,.int .i64 n,.int .i64 d]] w fun e w'=>e=.returned (Gl j g 0)∧Below w.heap.size w w':=by
 have z:=Lib.hid (fun w=>Xp j g w M);have tok:=trivial;have R:=Lib.hid (fun w=>Xp p f w h);have J:=Lib.hid (fun w=>Jj k n d w x);rw[L] at J;have O:=Lib.hid q;have k1:=x.1;have k2:=x.2;clear h x L q;clear M;go_enter func170,ntmps170;go_wp2_with (first|(have _t:=tok;go_at_call 41;(with_reducible refine(R.out _).mono ?_);rintro e H ⟨rfl,hb1⟩;obtain⟨V,ab⟩:=arith.YB hb1;clear tok;have A:w.heap.size<H.heap.size:=Yy hb1 (by first|(simp;done)|(simp;omega));have F:w.heap.size+1<H.heap.size:=Yy hb1 (by first|(simp;done)|(simp;omega));have D:w.heap.size+1+1<H.heap.size:=Yy hb1 (by simp))|(go_at_call 208;(with_reducible refine(J.out _).mono ?_);rintro e I ⟨rfl,hb2⟩;obtain⟨X,ac⟩:=arith.YB hb2;have C:w.heap.size<I.heap.size:=Yp A hb2.size;have G:w.heap.size+1<I.heap.size:=Yp F hb2.size;have E:w.heap.size+1+1<I.heap.size:=Yp D hb2.size)|(go_at_call 209;(with_reducible refine(O.out _).mono ?_);rintro e m ⟨rfl,hb3⟩;obtain⟨Y,ae⟩:=arith.YB hb3;have T:w.heap.size<m.heap.size:=Yp C hb3.size;have ak:w.heap.size+1<m.heap.size:=Yp G hb3.size;have ai:w.heap.size+1+1<m.heap.size:=Yp E hb3.size)|(go_at_call 41;(with_reducible refine(z.out _).mono ?_);rintro e y ⟨rfl,hb4⟩;obtain⟨Z,af⟩:=arith.YB hb4;have U:w.heap.size<y.heap.size:=Yy hb4 (by first|(simp;done)|(simp;omega));have al:w.heap.size+1<y.heap.size:=Yy hb4 (by first|(simp;done)|(simp;omega));have aj:w.heap.size+1+1<y.heap.size:=Yy hb4 (by first|(simp;done)|(simp;omega));have ah:m.heap.size<y.heap.size:=Yy hb4 (by simp);have aa:w.heap.size+1+1<m.heap.size+1:=oz;have ag:¬w.heap.size+1+1=m.heap.size:=oz));exact bodyPost_ret (v:=.tuple #[.agg #[.int .i64 j,.int .i64 g],.int .i64 0]) (by simp only[results,results170];go_simp) rfl ⟨rfl,(by repeat (first|exact Below.refl _ _|(refine Below.setCell ?_ oz _)|(refine Below.alloc ?_ oz _)|(refine arith.below_drewN ?_ _)|(refine Below.trans ?_ (hb4.mono oz))|(refine Below.trans ?_ (hb3.mono oz))|(refine Below.trans ?_ (hb2.mono oz))|(refine Below.trans ?_ (hb1.mono oz))))⟩
def fin(p f:Int):Int × Int × Int:=if f≤2000 then (p,f,0) else (0,0,7)
def YE(p f k n d:Int):Int × Int × Int :=
 if YD p f=false∨k<3∨8<k then (0,0,12)
 else if QX k n d=false then (0,0,7)
 else if k=3 then (if p%n=0 then (p/n,f,0) else (0,0,5))
 else if k=4 then (if p*n≤2000 then (p*n,f,0) else (0,0,7))
 else if k=5 then (if p*n%d=0 then fin p (f+p*n/d) else (0,0,5))
 else if k=6 then (p,f,0)
 else if k=7 then fin p (f+p)
 else if p≤f then (p,f-p,0) else (0,0,5)
def xN(r:Int × Int × Int):Value:=Gl r.1 r.2.1 r.2.2
theorem k6{k n d:Int}(f:k=3∨k=4)(h:QX k n d=true):1≤n∧n≤100:=by
 unfold QX at h;have:=of_decide_eq_true h;omega
theorem ZgJ{n d:Int}(h:QX 5 n d=true):1≤d∧d≤100∧0≤n∧n≤100:=by
 unfold QX at h;have:=of_decide_eq_true h;omega
theorem zS{p n:Int}(v:1≤p)(x:p≤2000)(j:1≤n)(m:p%n=0):1≤p/n∧p/n≤2000:=by
 have h:=plain.yN p n j;have q:=h.1 oz;refine⟨?_,oz⟩;apply Classical.byContradiction;intro g;have f:p/n=0:=oz;have:=Int.ediv_mul_add_emod p n;rw[f,m] at this;omega
theorem Zcm{p n:Int}(h1:1≤p)(hn:1≤n):1≤p*n:=arith.Zcn h1 hn
theorem Kg(p f k n d:Int)(w:World) :
  Calls prog 170 #[.agg #[.int .i64 p,.int .i64 f],.agg #[.int .i64 k,.int .i64 n,.int .i64 d]] w fun e w' =>
   e=.returned (xN (YE p f k n d))∧Below w.heap.size w w':=by
 by_cases h:1≤p∧p≤2000∧0≤f∧f≤2000
 ·have F:=X7 h;by_cases E:k<3∨8<k
  ·have e:YE p f k n d=(0,0,12):=by unfold YE;rw[Yv (.inr E)]
   rw[e];exact vw p f k n d w h E
  have g:3≤k∧k≤8:=oz;have x:¬(YD p f=false∨k<3∨8<k):=by rw[F];simp;omega
  cases hn:QX k n d with
  | false =>
   have e:YE p f k n d=(0,0,7):=by unfold YE;rw[Yu x,Yv hn]
   rw[e];exact xO p f k n d w h g hn
  | true =>
   have y:¬(QX k n d=false):=by rw[hn];simp
   have C:=h.1;have p2:=h.2.1;have f1:=h.2.2.1;have v:=h.2.2.2;have z:k=3∨k=4∨k=5∨k=6∨k=7∨k=8:=oz;rcases z with rfl|rfl|rfl|rfl|rfl|rfl
   ·have j:=k6 (.inl rfl) hn;by_cases m:p%n=0
    ·have q:=zS C p2 j.1 m;have e:YE p f 3 n d=(p/n,f,0):=by unfold YE;rw[Yu x,Yu y,Yv rfl,Yv m]
     rw[e];refine Ja p f 3 n d (p/n) f w h g hn ⟨q.1,q.2,f1,v⟩ fun w=>?_
     have:=KW p f n d w oz p2 f1 v j.1 j.2
     rwa [show(p%n == 0)=true by simpa using m] at this
    have e:YE p f 3 n d=(0,0,5):=by unfold YE;rw[Yu x,Yu y,Yv rfl,Yu m]
    rw[e];refine GT p f 3 n d (p/n) f w h g hn fun w=>?_
    have:=KW p f n d w oz p2 f1 v j.1 j.2
    rwa [show(p%n == 0)=false by simpa using m] at this
   ·have j:=k6 (.inr rfl) hn;have G:=Zcm C j.1;by_cases m:p*n≤2000
    ·have e:YE p f 4 n d=(p*n,f,0):=by unfold YE;rw[Yu x,Yu y,Yu oz,Yv rfl,Yv m]
     rw[e];exact Ja p f 4 n d (p*n) f w h g hn ⟨G,m,f1,v⟩ fun w=>UR p f n d w oz p2 f1 v j.1 j.2
    have e:YE p f 4 n d=(0,0,7):=by unfold YE;rw[Yu x,Yu y,Yu oz,Yv rfl,Yu m]
    rw[e];exact Kh p f 4 n d (p*n) f w h g hn oz fun w=>UR p f n d w oz p2 f1 v j.1 j.2
   ·have j:=ZgJ hn;by_cases m:p*n%d=0
    ·have e:YE p f 5 n d=fin p (f+p*n/d):=by unfold YE;rw[Yu x,Yu y,Yu oz,Yu oz,Yv rfl,Yv m]
     have D:∀w,Calls prog 209 #[.agg #[.int .i64 p,.int .i64 f],.agg #[.int .i64 5,.int .i64 n,.int .i64 d]] w fun e w' =>
       e=.returned (.tuple #[.agg #[.int .i64 p,.int .i64 (f+p*n/d)],.bool true])∧Below w.heap.size w w':=fun w=>by
      have:=UQ p f n d w oz p2 f1 v j.2.2.1 j.2.2.2 j.1 j.2.1
      rwa [show(p*n%d == 0)=true by simpa using m] at this
     have H:=Int.ediv_nonneg (Int.mul_nonneg (show 0≤p by omega) j.2.2.1) (show 0≤d by omega);rw[e];unfold fin;by_cases A:f+p*n/d≤2000
     ·rw[Yv A];exact Ja p f 5 n d p (f+p*n/d) w h g hn ⟨C,p2,oz,A⟩ D
     rw[Yu A];exact Kh p f 5 n d p (f+p*n/d) w h g hn oz D
    have e:YE p f 5 n d=(0,0,5):=by unfold YE;rw[Yu x,Yu y,Yu oz,Yu oz,Yv rfl,Yu m]
    rw[e];refine GT p f 5 n d p (f+p*n/d) w h g hn fun w=>?_
    have:=UQ p f n d w oz p2 f1 v j.2.2.1 j.2.2.2 j.1 j.2.1
    rwa [show(p*n%d == 0)=false by simpa using m] at this
   ·have e:YE p f 6 n d=(p,f,0):=by unfold YE;rw[Yu x,Yu y,Yu oz,Yu oz,Yu oz,Yv rfl]
    rw[e];exact Ja p f 6 n d p f w h g hn h fun w=>vH p f n d w
   ·have e:YE p f 7 n d=fin p (f+p):=by unfold YE;rw[Yu x,Yu y,Yu oz,Yu oz,Yu oz,Yu oz,Yv rfl]
    rw[e];unfold fin;by_cases A:f+p≤2000
    ·rw[Yv A];exact Ja p f 7 n d p (f+p) w h g hn ⟨C,p2,oz,A⟩ fun w=>KX p f n d w oz p2 f1 v
    rw[Yu A];exact Kh p f 7 n d p (f+p) w h g hn oz fun w=>KX p f n d w oz p2 f1 v
   by_cases m:p≤f
   ·have e:YE p f 8 n d=(p,f-p,0):=by unfold YE;rw[Yu x,Yu y,Yu oz,Yu oz,Yu oz,Yu oz,Yu oz,Yv m]
    rw[e];refine Ja p f 8 n d p (f-p) w h g hn ⟨C,p2,oz,oz⟩ fun w=>?_
    have:=KV p f n d w oz p2 f1 v
    rwa [show decide (p≤f)=true by simpa using m] at this
   have e:YE p f 8 n d=(0,0,5):=by unfold YE;rw[Yu x,Yu y,Yu oz,Yu oz,Yu oz,Yu oz,Yu oz,Yu m]
   rw[e];refine GT p f 8 n d p (f-p) w h g hn fun w=>?_
   have:=KV p f n d w oz p2 f1 v
   rwa [show decide (p≤f)=false by simpa using m] at this
 have e:YE p f k n d=(0,0,12):=by unfold YE;rw[Yv (.inl (VI h))]
 rw[e];exact xP p f k n d w h
def YO:Int→Int→List (Int × Int × Int)→Int × Int × Int
 | p,f,[]=>(p,f,0)
 | p,f,o::l=>let r:=YE p f o.1 o.2.1 o.2.2;if r.2.2=0 then YO r.1 r.2.1 l else (0,0,r.2.2)
def Gk(p f:Int)(l:List (Int × Int × Int)):Int × Int × Int:=if YD p f=true then YO p f l else (0,0,12)
theorem eB(p f:Int)(v:Value)(w:World)(h:¬(1≤p∧p≤2000∧0≤f∧f≤2000)) :
  Calls prog 172 #[.agg #[.int .i64 p,.int .i64 f],v] w fun e w'=>e=.returned (Gl 0 0 12)∧Below w.heap.size w w':=by
 have j:=Lib.hid (fun w=>Qr p f w h);clear h;go_enter func172,ntmps172;go_wp2_with (go_at_call 41;(with_reducible refine(j.out _).mono ?_);rintro e g ⟨rfl,hb1⟩;obtain⟨q,x⟩:=arith.YB hb1;have m:w.heap.size<g.heap.size:=Yy hb1 (by first|(simp;done)|(simp;omega));have y:w.heap.size+1<g.heap.size:=Yy hb1 (by simp));exact bodyPost_ret (v:=.tuple #[.agg #[.int .i64 0,.int .i64 0],.int .i64 12]) (by simp only[results,results172];go_simp) rfl ⟨rfl,(by repeat (first|exact Below.refl _ _|(refine Below.setCell ?_ oz _)|(refine Below.alloc ?_ oz _)|(refine Below.trans ?_ (hb1.mono oz))))⟩
def j9(B:Nat)(w:World)(p f:Int)(l:List (Int × Int × Int))(k:Nat)(p' f':Int)(wr:World):Prop :=
 YO p' f' (l.drop k)=YO p f l∧Below B w wr∧B+1<wr.heap.size ∧
 wr.cell? ⟨B,0,none⟩=some (.int .i64 p')∧wr.cell? ⟨B,1,none⟩=some (.int .i64 f')∧wr.cell? ⟨B+1,0,none⟩=some (.int .i64 0)∧wr.cell? ⟨B+1,1,none⟩=some (.int .i64 0) ∧
 wr.frozen? ⟨B,0,none⟩=false∧wr.frozen? ⟨B,1,none⟩=false∧wr.frozen? ⟨B+1,0,none⟩=false∧wr.frozen? ⟨B+1,1,none⟩=false
theorem xL{B:Nat}{w wr w2:World}{p f:Int}{l:List (Int × Int × Int)}{k:Nat}{H C p2 m:Int}{o G:Obj}(h:j9 B w p f l k H C wr)
  (E:YO p2 m (l.drop (k+1))=YO p f l)(hb:Below (wr.alloc o).heap.size (wr.alloc o) w2) :
  j9 B w p f l (k+1) p2 m (((w2.setCell ⟨B,0,none⟩ (.int .i64 p2)).setCell ⟨B,1,none⟩ (.int .i64 m)).alloc G):=by
 obtain⟨D,v,j,c0,c1,c2,c3,x,y,z,A⟩:=h;have F:=hb.size;rw[World.size_alloc] at F;have g:Below wr.heap.size wr w2:=Below.trans ((Below.refl _ _).alloc (Yo _) o) (hb.mono (by rw[World.size_alloc];omega));have s0:B<wr.heap.size:=oz;have s3:B<w2.heap.size:=oz;have s4:B+1<w2.heap.size:=oz;have I:=(g.cell (p:=⟨B,0,none⟩) s0).trans c0;have J:=(g.cell (p:=⟨B,1,none⟩) s0).trans c1;have L:=(g.cell (p:=⟨B+1,0,none⟩) j).trans c2;have M:=(g.cell (p:=⟨B+1,1,none⟩) j).trans c3;have O:=(g.frozen (p:=⟨B,0,none⟩) s0).trans x;have R:=(g.frozen (p:=⟨B,1,none⟩) s0).trans y;have T:=(g.frozen (p:=⟨B+1,0,none⟩) j).trans z;have U:=(g.frozen (p:=⟨B+1,1,none⟩) j).trans A;have q:Below B w w2:=v.trans (g.mono oz);clear g hb v c0 c1 c2 c3 x y z A D;refine⟨E,?_,?_,?_,?_,?_,?_,?_,?_,?_,?_⟩
 ·exact Below.alloc (Below.setCell (Below.setCell q (Yo _) _) (Yo _) _) (by simp;omega) _
 ·simp;omega
 all_goals go_simp
theorem vu{l r:List (Int × Int × Int)}{p f k n d p2 j:Int}{X:Int × Int × Int}(hd:l=(k,n,d)::r)(m:YE p f k n d=(p2,j,0))(g:YO p f l=X):YO p2 j r=X:=by
 rw[hd,YO] at g;simp only[m] at g;rw[Yv trivial] at g;exact g
theorem vt{l r:List (Int × Int × Int)}{p f k n d p2 j e:Int}{X:Int × Int × Int}(hd:l=(k,n,d)::r)(q:YE p f k n d=(p2,j,e))(m:¬e=0)(g:YO p f l=X):X=(0,0,e):=by
 rw[hd,YO] at g;simp only[q] at g;rw[Yu m] at g;exact g.symm
theorem vY{l:List (Int × Int × Int)}{k:Nat}(h:k<l.length):l.drop k=l.getD k (0,0,0)::l.drop (k+1):=by
 rw[List.drop_eq_getElem_cons h,plain.getD_lt _ h]
theorem Zdv(p f:Int)(a:Option Addr)(cap:Nat)(l:List (Int × Int × Int))(w:World)(h:1≤p∧p≤2000∧0≤f∧f≤2000)(hl:l.length≤9223372036854775807)
  (g:∀k,k<l.length→∃b off,a=some ⟨b,off,none⟩∧b<w.heap.size∧w.cell? ⟨b,off+k*3,none⟩=some (.int .i64 (l.getD k (0,0,0)).1)∧w.cell? ⟨b,off+k*3+1,none⟩=some (.int .i64 (l.getD k (0,0,0)).2.1)∧w.cell? ⟨b,off+k*3+2,none⟩=some (.int .i64 (l.getD k (0,0,0)).2.2)) :
  Calls prog 172 #[.agg #[.int .i64 p,.int .i64 f],.slice a l.length cap] w fun e w'=>e=.returned (xN (YO p f l))∧Below w.heap.size w w':=by
 have HR:=Lib.hid (fun w=>Xp p f w h);have HC:=Lib.hid g;clear h g;go_enter func172,ntmps172;go_wp2_with (go_at_call 41;(with_reducible refine(HR.out _).mono ?_);rintro e w1 ⟨rfl,hb1⟩;obtain⟨J,M⟩:=arith.YB hb1;have H:w.heap.size<w1.heap.size:=Yy hb1 (by first|(simp;done)|(simp;omega));have C:w.heap.size+1<w1.heap.size:=Yy hb1 (by simp));go_loopw [16] (fun i wr=>∃(k:Nat)(x q:Int),k≤l.length∧i=.int .i64 k∧j9 w.heap.size w p f l k x q wr) (fun i _=>l.length-(intOf i).toNat)
 case atStart =>
  refine⟨0,p,f,oz,rfl,rfl,?_,C,?_,?_,?_,?_,?_,?_,?_,?_⟩
  ·exact Below.trans (((Below.refl _ _).alloc oz _).alloc oz _) (hb1.mono oz)
  all_goals go_simp
 obtain⟨k,x,q,hk,rfl,hrel⟩:=hrel;have y:=Lib.hid hrel;obtain⟨X,Y,hz,c0,c1,c2,c3,z0,z1,z2,z3⟩:=hrel;have F:=Lib.hid X;have HB:=Lib.hid Y;clear X Y J M hb1 H C;have ha:w.heap.size<wr.heap.size:=oz;by_cases A:k<l.length
 ·have hd:=Lib.hid (vY A);obtain⟨b,off,rfl,I,T,U,V⟩:=HC.out k A;rw[←HB.out.cell (p:=⟨b,_,none⟩) I] at T U V;generalize l.getD k (0,0,0)=o at *;obtain⟨ok,on,Z⟩:=o;simp only at T U V;generalize hr:YE x q ok on Z=r;obtain⟨p2,f2,G⟩:=r;have m:=Lib.hid (fun w=>Kg x q ok on Z w);simp only[hr,xN,Gl] at m;have R:=Lib.hid hr;clear hr;have n1:¬w.heap.size=wr.heap.size:=oz;have n2:¬w.heap.size+1=wr.heap.size:=oz;have s1:w.heap.size<wr.heap.size+1:=oz;have s2:w.heap.size+1<wr.heap.size+1:=oz;by_cases D:G=0
  ·subst D;go_wp2_with (go_at_call 170;(with_reducible refine(m.out _).mono ?_);rintro e j ⟨rfl,hb2⟩;have HB2:=Lib.hid hb2;obtain⟨L,O⟩:=arith.YB hb2;have s3:w.heap.size<j.heap.size:=Yy hb2 oz;have s4:w.heap.size+1<j.heap.size:=Yy hb2 oz;have n3:¬w.heap.size=j.heap.size:=oz;have n4:¬w.heap.size+1=j.heap.size:=oz);go_roundw
   case rel=>exact⟨k+1,p2,f2,oz,by go_num,xL y.out (vu hd.out R.out F.out) HB2.out⟩
   simp[intOf];omega
  have aa:(G != 0)=true:=by simpa using D
  have E:=Lib.hid (vt hd.out R.out D F.out);clear D;go_wp2_with (go_at_call 170;(with_reducible refine(m.out _).mono ?_);rintro e j ⟨rfl,hb2⟩;have HB2:=Lib.hid hb2;obtain⟨L,O⟩:=arith.YB hb2;have s3:w.heap.size<j.heap.size:=Yy hb2 oz;have s4:w.heap.size+1<j.heap.size:=Yy hb2 oz;have n3:¬w.heap.size=j.heap.size:=oz;have n4:¬w.heap.size+1=j.heap.size:=oz);exact bodyPost_ret (v:=.tuple #[.agg #[.int .i64 0,.int .i64 0],.int .i64 G]) (by simp only[results,results172];go_simp) rfl ⟨by rw[E.out];rfl,(by repeat (first|exact Below.refl _ _|exact HB.out|(refine Below.setCell ?_ oz _)|(refine Below.alloc ?_ oz _)|(refine Below.trans ?_ (HB2.out.mono oz))))⟩
 have z:k=l.length:=oz;have E:Hid (YO p f l=(x,q,0)):=by have:=F.out;rw[z,List.drop_length,YO] at this;exact this.symm
 subst z;go_wp2;exact bodyPost_ret (v:=.tuple #[.agg #[.int .i64 x,.int .i64 q],.int .i64 0]) (by simp only[results,results172];go_simp) rfl ⟨by rw[E.out];rfl,(by repeat (first|exact Below.refl _ _|exact HB.out|(refine Below.setCell ?_ oz _)|(refine Below.alloc ?_ oz _)))⟩
end Go.Proofs.YtdgifkjaflfdeaaGreatDoor.clock
