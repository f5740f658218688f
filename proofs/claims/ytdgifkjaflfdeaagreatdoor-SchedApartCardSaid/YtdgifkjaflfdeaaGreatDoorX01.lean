/- Parts of the proof. -/
import Derived.Test.YtdgifkjaflfdeaaGreatDoorX00
set_option linter.all false
set_option maxRecDepth 100000
set_option maxHeartbeats 16000000
namespace Go.Proofs.YtdgifkjaflfdeaaGreatDoor.clock
open Tryz
open Go.RowKit
variable {k n d p f p2 j:Int}{w:World}{B:Nat}{l r:List (Int × Int × Int)}{X:Int × Int × Int}
def Jz(k n d:Int):Bool:=decide ((k=3\/k=4->1<=n/\n<=100)/\(k=5->1<=d/\d<=100/\0<=n/\n<=100))
theorem yW(h:(k=3\/k=4->1<=n/\n<=100)/\(k=5->1<=d/\d<=100/\0<=n/\n<=100)):Jz k n d=true:=by unfold Jz;exact decide_eq_true h
theorem ud(h:¬((k=3\/k=4->1<=n/\n<=100)/\(k=5->1<=d/\d<=100/\0<=n/\n<=100))):Jz k n d=false:=by
 unfold Jz;exact Yu h
theorem UO(o:Obj):Below w.1.size w (w.alloc o):=(Below.refl _ _).alloc (Yr _) _
theorem Zeg(k n d:Int)(w:World)(f:k=3\/k=4) :
  Calls prog 208 #[.agg #[.int .i64 k,.int .i64 n,.int .i64 d]] w fun e w'=>e=.returned (.bool (kI n 1 100))/\Below w.1.size w w':=by
 rcases f with rfl|rfl
 all_goals
  go_enter func208,ntmps208;go_wp2_with (go_at_call 86;refine(Qn _ _ _ _).mono ?_;rintro e w' ⟨rfl,rfl⟩);go_ret;exact⟨rfl,UO _⟩
theorem ZfP(n d:Int)(w:World)(h:1<=d/\d<=100) :
  Calls prog 208 #[.agg #[.int .i64 5,.int .i64 n,.int .i64 d]] w fun e w'=>e=.returned (.bool (kI n 0 100))/\Below w.1.size w w':=by
 have f:=Lib.hid (fun w=>Vr d 1 100 w h.1 h.2);clear h;go_enter func208,ntmps208;go_wp2_with (first|(go_at_call 86;with_reducible refine(f.out _).mono ?_;rintro e w' ⟨rfl,rfl⟩)|(go_at_call 86;refine(Qn _ _ _ _).mono ?_;rintro e w' ⟨rfl,rfl⟩));go_ret;exact⟨rfl,UO _⟩
theorem Zb5(n d:Int)(w:World)(h:d<1\/100<d) :
  Calls prog 208 #[.agg #[.int .i64 5,.int .i64 n,.int .i64 d]] w fun e w'=>e=.returned (.bool false)/\Below w.1.size w w':=by
 have f:=Lib.hid (fun w=>K4 d 1 100 w h);clear h;go_enter func208,ntmps208;go_wp2_with (first|(go_at_call 86;with_reducible refine(f.out _).mono ?_;rintro e w' ⟨rfl,rfl⟩));go_ret;exact⟨rfl,UO _⟩
theorem Zb6(k n d:Int)(w:World)(f:k=6\/k=7\/k=8) :
  Calls prog 208 #[.agg #[.int .i64 k,.int .i64 n,.int .i64 d]] w fun e w'=>e=.returned (.bool true)/\Below w.1.size w w':=by
 rcases f with rfl|rfl|rfl
 all_goals
  go_enter func208,ntmps208;go_wp2;go_ret;exact⟨rfl,UO _⟩
theorem Jr(k n d:Int)(w:World)(m:3<=k/\k<=8) :
  Calls prog 208 #[.agg #[.int .i64 k,.int .i64 n,.int .i64 d]] w fun e w'=>e=.returned (.bool (Jz k n d))/\Below w.1.size w w':=by
 by_cases g:k=3\/k=4
 .have H:=Zeg k n d w g;by_cases f:1<=n/\n<=100
  .rw[GU f.1 f.2] at H;rw[yW oz];exact H
  rw[zo oz] at H;rw[ud oz];exact H
 by_cases j:k=5
 .subst j;by_cases hd:1<=d/\d<=100
  .have H:=ZfP n d w hd;by_cases f:0<=n/\n<=100
   .rw[GU f.1 f.2] at H;rw[yW oz];exact H
   rw[zo oz] at H;rw[ud oz];exact H
  rw[ud oz];exact Zb5 n d w oz
 rw[yW oz];exact Zb6 k n d w oz
theorem ZcH(f:0<=p)(m:p<=2000)(g:-1<=n)(j:n<=100):-2000<=p*n/\p*n<=200000:=by
 have a:p*n<=p*100:=Int.mul_le_mul_of_nonneg_left j f;have b:p*(-1)<=p*n:=Int.mul_le_mul_of_nonneg_left g f;omega
theorem Zgf{x d:Int}(f:-2000<=x)(g:x<=200000)(hd:1<=d):-2000<=x/d/\x/d<=200000:=by
 have:=plain.yU x d hd;by_cases h:0<=x
 .have:=this.1 h;omega
 have:=this.2 oz;omega
theorem EZ(p n d:Int)(w:World)(g:0<=p)(j:p<=2000)(q:-1<=n)(v:n<=100)(x:1<=d)(y:d<=9223372036854775807) :
  Calls prog 239 #[.int .i64 p,.int .i64 n,.int .i64 d] w fun e w'=>e=.returned (.tuple #[.int .i64 (p*n/d),.bool (p*n%d == 0)])/\∃m,w'=w.drewN m:=by
 have z:=ZcH g j q v;have C:wrap64 (p*n)=p*n:=IntWalk.wrap64_in _ oz;have f:=Lib.hid (fun w=>arith.Zar (p*n) d w x oz oz y);go_enter func239,ntmps239;go_wp2_with (go_at_call 256;refine(f.out _).mono ?_;rintro e w' ⟨rfl,A,rfl⟩);go_ret2;exact⟨rfl,_,rfl⟩
def shB(p f n d:Int):Bool:=decide (p*n%d=0/\0<=f+p*n/d)
theorem bZ010{p:Prop}(h:p:=by repeat (first|exact Below.refl _ _|(refine Below.setCell ?_ (by first|(simp;done)|(simp;omega)) _)|(refine Below.alloc ?_ (by first|(simp;done)|(simp;omega)) _)|(refine arith.below_drewN ?_ _))):p:=h
theorem KU(p f n d:Int)(w:World)(y:0<=p)(A:p<=2000)(f1:0<=f)(I:f<=2000)(C:-1<=n)(D:n<=100)(F:1<=d)(J:d<=100) :
  Calls prog 240 #[.agg #[.int .i64 p,.int .i64 f],.int .i64 n,.int .i64 d] w fun e w' =>
   e=.returned (.tuple #[.agg #[.int .i64 p,.int .i64 (f+p*n/d)],.bool (shB p f n d)])/\Below w.1.size w w':=by
 have m:=ZcH y A C D;have x:=Zgf m.1 m.2 F;have L:=x.1;have M:=x.2;have j:=Lib.hid (fun w=>EZ p n d w y A C D F oz);clear m x;by_cases g:p*n%d=0
 .have z:(p*n%d == 0)=true:=by simpa using g
  by_cases q:0<=f+p*n/d
  .have E:Hid (shB p f n d=true):=by unfold shB;exact decide_eq_true ⟨g,q⟩
   clear g;go_enter func240,ntmps240;go_wp2_with (go_at_call 239;refine(j.out _).mono ?_;rintro e w' ⟨rfl,G,rfl⟩);exact bodyPost_ret (v:=.tuple #[.agg #[.int .i64 p,.int .i64 (f+p*n/d)],.bool true]) (by simp[results,results240,go_sem]<;>omega) rfl ⟨by rw[E.out],bZ010⟩
  have E:Hid (shB p f n d=false):=by unfold shB;exact Yu (fun h=>q h.2)
  clear g;have H:f+p*n/d<0:=oz;clear q;go_enter func240,ntmps240;go_wp2_with (go_at_call 239;refine(j.out _).mono ?_;rintro e w' ⟨rfl,G,rfl⟩);exact bodyPost_ret (v:=.tuple #[.agg #[.int .i64 p,.int .i64 (f+p*n/d)],.bool false]) (by simp[results,results240,go_sem]<;>omega) rfl ⟨by rw[E.out],bZ010⟩
 have z:(p*n%d == 0)=false:=by simpa using g
 have E:Hid (shB p f n d=false):=by unfold shB;exact Yu (fun h=>g h.1)
 clear g;go_enter func240,ntmps240;go_wp2_with (go_at_call 239;refine(j.out _).mono ?_;rintro e w' ⟨rfl,G,rfl⟩);exact bodyPost_ret (v:=.tuple #[.agg #[.int .i64 p,.int .i64 (f+p*n/d)],.bool false]) (by simp[results,results240,go_sem]<;>omega) rfl ⟨by rw[E.out],bZ010⟩
theorem Gd(p f n d:Int)(w:World)(m:0<=p)(q:p<=2000)(f1:0<=f)(y:f<=2000)(x:1<=n)(z:n<=100) :
  Calls prog 209 #[.agg #[.int .i64 p,.int .i64 f],.agg #[.int .i64 3,.int .i64 n,.int .i64 d]] w fun e w' =>
   e=.returned (.tuple #[.agg #[.int .i64 (p/n),.int .i64 f],.bool (p%n == 0)])/\Below w.1.size w w':=by
 have g:=Lib.hid (fun w=>EZ p 1 n w m q oz oz x oz);have j:p*1=p:=oz;rw[j] at g;clear j;go_enter func209,ntmps209;go_wp2_with (go_at_call 239;refine(g.out _).mono ?_;rintro e w' ⟨rfl,A,rfl⟩);exact bodyPost_ret (v:=.tuple #[.agg #[.int .i64 (p/n),.int .i64 f],.bool (p%n == 0)]) (by simp[results,results209,go_sem]) rfl ⟨rfl,bZ010⟩
theorem UT(p f n d:Int)(w:World)(q:0<=p)(x:p<=2000)(f1:0<=f)(y:f<=2000)(z:1<=n)(A:n<=100) :
  Calls prog 209 #[.agg #[.int .i64 p,.int .i64 f],.agg #[.int .i64 4,.int .i64 n,.int .i64 d]] w fun e w' =>
   e=.returned (.tuple #[.agg #[.int .i64 (p*n),.int .i64 f],.bool true])/\Below w.1.size w w':=by
 have g:=Lib.hid (fun w=>EZ p n 1 w q x oz oz oz oz);have j:p*n/1=p*n:=oz;have m:(p*n%1 == 0)=true:=by simp
 rw[j,m] at g;clear j m;go_enter func209,ntmps209;go_wp2_with (go_at_call 239;refine(g.out _).mono ?_;rintro e w' ⟨rfl,C,rfl⟩);exact bodyPost_ret (v:=.tuple #[.agg #[.int .i64 (p*n),.int .i64 f],.bool true]) (by simp[results,results209,go_sem]) rfl ⟨rfl,bZ010⟩
theorem bZ011{p:Prop}(h:p:=by repeat (first|exact Below.refl _ _|(refine Below.setCell ?_ (by first|(simp;done)|(simp;omega)) _)|(refine Below.alloc ?_ (by first|(simp;done)|(simp;omega)) _)|(refine arith.below_drewN ?_ _)|(refine Below.trans ?_ (hb.mono (by first|(simp;done)|(simp;omega)))))):p:=h
theorem US(p f n d:Int)(w:World)(m:0<=p)(y:p<=2000)(f1:0<=f)(x:f<=2000)(z:0<=n)(A:n<=100)(C:1<=d)(D:d<=100) :
  Calls prog 209 #[.agg #[.int .i64 p,.int .i64 f],.agg #[.int .i64 5,.int .i64 n,.int .i64 d]] w fun e w' =>
   e=.returned (.tuple #[.agg #[.int .i64 p,.int .i64 (f+p*n/d)],.bool (p*n%d == 0)])/\Below w.1.size w w':=by
 have q:shB p f n d=(p*n%d == 0):=by
  have F:=Int.mul_nonneg m z;have H:=Int.ediv_nonneg F (show 0<=d by omega);unfold shB;by_cases g:p*n%d=0
  .rw[decide_eq_true ⟨g,oz⟩];simp[g]
  rw[Yu (fun h=>g h.1)];simp[g]
 have j:=Lib.hid (fun w=>KU p f n d w m y f1 x oz A C D);rw[q] at j;clear q;go_enter func209,ntmps209;go_wp2_with (go_at_call 240;refine(j.out _).mono ?_;rintro e I ⟨rfl,hb⟩;obtain⟨E,G⟩:=arith.YE hb);exact bodyPost_ret (v:=.tuple #[.agg #[.int .i64 p,.int .i64 (f+p*n/d)],.bool (p*n%d == 0)]) (by simp[results,results209,go_sem,E]) rfl ⟨rfl,bZ011⟩
theorem vK(p f n d:Int)(w:World) :
  Calls prog 209 #[.agg #[.int .i64 p,.int .i64 f],.agg #[.int .i64 6,.int .i64 n,.int .i64 d]] w fun e w' =>
   e=.returned (.tuple #[.agg #[.int .i64 p,.int .i64 f],.bool true])/\Below w.1.size w w':=by
 go_enter func209,ntmps209;go_wp2;exact bodyPost_ret (v:=.tuple #[.agg #[.int .i64 p,.int .i64 f],.bool true]) (by simp[results,results209,go_sem]) rfl ⟨rfl,bZ010⟩
theorem Ge(p f n d:Int)(w:World)(x:0<=p)(y:p<=2000)(f1:0<=f)(q:f<=2000) :
  Calls prog 209 #[.agg #[.int .i64 p,.int .i64 f],.agg #[.int .i64 7,.int .i64 n,.int .i64 d]] w fun e w' =>
   e=.returned (.tuple #[.agg #[.int .i64 p,.int .i64 (f+p)],.bool true])/\Below w.1.size w w':=by
 have m:shB p f 1 1=true:=by unfold shB;exact decide_eq_true ⟨oz,oz⟩
 have j:p*1/1=p:=oz;have g:=Lib.hid (fun w=>KU p f 1 1 w x y f1 q oz oz oz oz);rw[m,j] at g;clear m j;go_enter func209,ntmps209;go_wp2_with (go_at_call 240;refine(g.out _).mono ?_;rintro e C ⟨rfl,hb⟩;obtain⟨z,A⟩:=arith.YE hb);exact bodyPost_ret (v:=.tuple #[.agg #[.int .i64 p,.int .i64 (f+p)],.bool true]) (by simp[results,results209,go_sem,z]) rfl ⟨rfl,bZ011⟩
theorem Gc(p f n d:Int)(w:World)(x:0<=p)(y:p<=2000)(f1:0<=f)(q:f<=2000) :
  Calls prog 209 #[.agg #[.int .i64 p,.int .i64 f],.agg #[.int .i64 8,.int .i64 n,.int .i64 d]] w fun e w' =>
   e=.returned (.tuple #[.agg #[.int .i64 p,.int .i64 (f-p)],.bool (decide (p<=f))])/\Below w.1.size w w':=by
 have m:shB p f (-1) 1=decide (p<=f):=by
  unfold shB;by_cases h:p<=f
  .rw[decide_eq_true h];exact decide_eq_true ⟨oz,oz⟩
  rw[Yu h];exact Yu oz
 have j:f+p*-1/1=f-p:=oz;have g:=Lib.hid (fun w=>KU p f (-1) 1 w x y f1 q oz oz oz oz);rw[m,j] at g;clear m j;go_enter func209,ntmps209;go_wp2_with (go_at_call 240;refine(g.out _).mono ?_;rintro e C ⟨rfl,hb⟩;obtain⟨z,A⟩:=arith.YE hb);exact bodyPost_ret (v:=.tuple #[.agg #[.int .i64 p,.int .i64 (f-p)],.bool (decide (p<=f))]) (by simp[results,results209,go_sem,z]) rfl ⟨rfl,bZ011⟩
def Kj(p f e:Int):Value:=.tuple #[.agg #[.int .i64 p,.int .i64 f],.int .i64 e]
theorem Yz{B k:Nat}{a w:World}(h:Below B a w)(hk:k<a.1.size):k<w.1.size:=Ys hk h.size
theorem bZ013{p:Prop}(h:p:=by repeat (first|exact Below.refl _ _|(refine Below.setCell ?_ oz _)|(refine Below.alloc ?_ oz _)|(refine arith.below_drewN ?_ _)|(refine Below.trans ?_ (hb1.mono oz)))):p:=h
theorem qa(p f k n d:Int)(w:World)(h:¬(1<=p/\p<=2000/\0<=f/\f<=2000)) :
  Calls prog 170 #[.agg #[.int .i64 p,.int .i64 f],.agg #[.int .i64 k,.int .i64 n,.int .i64 d]] w fun e w'=>e=.returned (Kj 0 0 12)/\Below w.1.size w w':=by
 have j:=Lib.hid (fun w=>Q3 p f w h);clear h;go_enter func170,ntmps170;go_wp2_with (go_at_call 41;(with_reducible refine(j.out _).mono ?_);rintro e g ⟨rfl,hb1⟩;obtain⟨q,x⟩:=arith.YE hb1;have m:w.1.size<g.1.size:=Yz hb1 (by first|(simp;done)|(simp;omega));have z:w.1.size+1<g.1.size:=Yz hb1 (by first|(simp;done)|(simp;omega));have y:w.1.size+1+1<g.1.size:=Yz hb1 (by simp));exact bodyPost_ret (v:=.tuple #[.agg #[.int .i64 0,.int .i64 0],.int .i64 12]) (by simp only[results,results170];go_simp) rfl ⟨rfl,bZ013⟩
theorem vB(p f k n d:Int)(w:World)(h:1<=p/\p<=2000/\0<=f/\f<=2000)(g:k<3\/8<k) :
  Calls prog 170 #[.agg #[.int .i64 p,.int .i64 f],.agg #[.int .i64 k,.int .i64 n,.int .i64 d]] w fun e w'=>e=.returned (Kj 0 0 12)/\Below w.1.size w w':=by
 have m:=Lib.hid (fun w=>Xj p f w h);clear h;rcases g with g|g
 all_goals
  go_enter func170,ntmps170;go_wp2_with (go_at_call 41;(with_reducible refine(m.out _).mono ?_);rintro e j ⟨rfl,hb1⟩;obtain⟨x,y⟩:=arith.YE hb1;have q:w.1.size<j.1.size:=Yz hb1 (by first|(simp;done)|(simp;omega));have A:w.1.size+1<j.1.size:=Yz hb1 (by first|(simp;done)|(simp;omega));have z:w.1.size+1+1<j.1.size:=Yz hb1 (by simp))
  all_goals exact bodyPost_ret (v:=.tuple #[.agg #[.int .i64 0,.int .i64 0],.int .i64 12]) (by simp only[results,results170];go_simp) rfl ⟨rfl,bZ013⟩
theorem xZ(p f k n d:Int)(w:World)(h:1<=p/\p<=2000/\0<=f/\f<=2000)(g:3<=k/\k<=8)(A:Jz k n d=false) :
  Calls prog 170 #[.agg #[.int .i64 p,.int .i64 f],.agg #[.int .i64 k,.int .i64 n,.int .i64 d]] w fun e w'=>e=.returned (Kj 0 0 7)/\Below w.1.size w w':=by
 have C:=Lib.hid (fun w=>Xj p f w h);have z:=Lib.hid (fun w=>Jr k n d w g);rw[A] at z;have L:=g.1;have M:=g.2;clear h g A;go_enter func170,ntmps170;go_wp2_with (first|(go_at_call 41;(with_reducible refine(C.out _).mono ?_);rintro e x ⟨rfl,hb1⟩;obtain⟨E,G⟩:=arith.YE hb1;have j:w.1.size<x.1.size:=Yz hb1 (by first|(simp;done)|(simp;omega));have q:w.1.size+1<x.1.size:=Yz hb1 (by first|(simp;done)|(simp;omega));have m:w.1.size+1+1<x.1.size:=Yz hb1 (by simp))|(go_at_call 208;(with_reducible refine(z.out _).mono ?_);rintro e y ⟨rfl,hb2⟩;obtain⟨F,H⟩:=arith.YE hb2;have D:w.1.size<y.1.size:=Ys j hb2.size;have J:w.1.size+1<y.1.size:=Ys q hb2.size;have I:w.1.size+1+1<y.1.size:=Ys m hb2.size));exact bodyPost_ret (v:=.tuple #[.agg #[.int .i64 0,.int .i64 0],.int .i64 7]) (by simp only[results,results170];go_simp) rfl ⟨rfl,(by repeat (first|exact Below.refl _ _|(refine Below.setCell ?_ oz _)|(refine Below.alloc ?_ oz _)|(refine arith.below_drewN ?_ _)|(refine Below.trans ?_ (hb2.mono oz))|(refine Below.trans ?_ (hb1.mono oz))))⟩
theorem Ec(p f k n d Z J:Int)(w:World)(h:1<=p/\p<=2000/\0<=f/\f<=2000)(j:3<=k/\k<=8)(G:Jz k n d=true)
  (g:∀w,Calls prog 209 #[.agg #[.int .i64 p,.int .i64 f],.agg #[.int .i64 k,.int .i64 n,.int .i64 d]] w fun e w' =>
   e=.returned (.tuple #[.agg #[.int .i64 Z,.int .i64 J],.bool false])/\Below w.1.size w w') :
  Calls prog 170 #[.agg #[.int .i64 p,.int .i64 f],.agg #[.int .i64 k,.int .i64 n,.int .i64 d]] w fun e w'=>e=.returned (Kj 0 0 5)/\Below w.1.size w w':=by
 have I:=Lib.hid (fun w=>Xj p f w h);have F:=Lib.hid (fun w=>Jr k n d w j);rw[G] at F;have H:=Lib.hid g;have k1:=j.1;have k2:=j.2;clear h j G g;go_enter func170,ntmps170;go_wp2_with (first|(go_at_call 41;(with_reducible refine(I.out _).mono ?_);rintro e C ⟨rfl,hb1⟩;obtain⟨M,T⟩:=arith.YE hb1;have m:w.1.size<C.1.size:=Yz hb1 (by first|(simp;done)|(simp;omega));have z:w.1.size+1<C.1.size:=Yz hb1 (by first|(simp;done)|(simp;omega));have x:w.1.size+1+1<C.1.size:=Yz hb1 (by simp))|(go_at_call 208;(with_reducible refine(F.out _).mono ?_);rintro e D ⟨rfl,hb2⟩;obtain⟨O,U⟩:=arith.YE hb2;have q:w.1.size<D.1.size:=Ys m hb2.size;have A:w.1.size+1<D.1.size:=Ys z hb2.size;have y:w.1.size+1+1<D.1.size:=Ys x hb2.size)|(go_at_call 209;(with_reducible refine(H.out _).mono ?_);rintro e E ⟨rfl,hb3⟩;obtain⟨R,V⟩:=arith.YE hb3;have L:w.1.size<E.1.size:=Ys q hb3.size;have Y:w.1.size+1<E.1.size:=Ys A hb3.size;have X:w.1.size+1+1<E.1.size:=Ys y hb3.size));exact bodyPost_ret (v:=.tuple #[.agg #[.int .i64 0,.int .i64 0],.int .i64 5]) (by simp only[results,results170];go_simp) rfl ⟨rfl,(by repeat (first|exact Below.refl _ _|(refine Below.setCell ?_ oz _)|(refine Below.alloc ?_ oz _)|(refine arith.below_drewN ?_ _)|(refine Below.trans ?_ (hb3.mono oz))|(refine Below.trans ?_ (hb2.mono oz))|(refine Below.trans ?_ (hb1.mono oz))))⟩
theorem bZ012{p:Prop}(h:p:=by repeat (first|exact Below.refl _ _|(refine Below.setCell ?_ oz _)|(refine Below.alloc ?_ oz _)|(refine arith.below_drewN ?_ _)|(refine Below.trans ?_ (hb4.mono oz))|(refine Below.trans ?_ (hb3.mono oz))|(refine Below.trans ?_ (hb2.mono oz))|(refine Below.trans ?_ (hb1.mono oz)))):p:=h
theorem Kk(p f k n d x m:Int)(w:World)(h:1<=p/\p<=2000/\0<=f/\f<=2000)(q:3<=k/\k<=8)(L:Jz k n d=true)(M:¬(1<=x/\x<=2000/\0<=m/\m<=2000))
  (j:∀w,Calls prog 209 #[.agg #[.int .i64 p,.int .i64 f],.agg #[.int .i64 k,.int .i64 n,.int .i64 d]] w fun e w' =>
   e=.returned (.tuple #[.agg #[.int .i64 x,.int .i64 m],.bool true])/\Below w.1.size w w') :
  Calls prog 170 #[.agg #[.int .i64 p,.int .i64 f],.agg #[.int .i64 k,.int .i64 n,.int .i64 d]] w fun e w'=>e=.returned (Kj 0 0 7)/\Below w.1.size w w':=by
 have z:=Lib.hid (fun w=>Q3 x m w M);have tok:=trivial;have R:=Lib.hid (fun w=>Xj p f w h);have J:=Lib.hid (fun w=>Jr k n d w q);rw[L] at J;have O:=Lib.hid j;have k1:=q.1;have k2:=q.2;clear h q L j;clear M;go_enter func170,ntmps170;go_wp2_with (first|(have _t:=tok;go_at_call 41;(with_reducible refine(R.out _).mono ?_);rintro e H ⟨rfl,hb1⟩;obtain⟨V,ab⟩:=arith.YE hb1;clear tok;have A:w.1.size<H.1.size:=Yz hb1 (by first|(simp;done)|(simp;omega));have F:w.1.size+1<H.1.size:=Yz hb1 (by first|(simp;done)|(simp;omega));have D:w.1.size+1+1<H.1.size:=Yz hb1 (by simp))|(go_at_call 208;(with_reducible refine(J.out _).mono ?_);rintro e I ⟨rfl,hb2⟩;obtain⟨X,ac⟩:=arith.YE hb2;have C:w.1.size<I.1.size:=Ys A hb2.size;have G:w.1.size+1<I.1.size:=Ys F hb2.size;have E:w.1.size+1+1<I.1.size:=Ys D hb2.size)|(go_at_call 209;(with_reducible refine(O.out _).mono ?_);rintro e g ⟨rfl,hb3⟩;obtain⟨Y,ae⟩:=arith.YE hb3;have T:w.1.size<g.1.size:=Ys C hb3.size;have ak:w.1.size+1<g.1.size:=Ys G hb3.size;have ai:w.1.size+1+1<g.1.size:=Ys E hb3.size)|(go_at_call 41;(with_reducible refine(z.out _).mono ?_);rintro e y ⟨rfl,hb4⟩;obtain⟨Z,af⟩:=arith.YE hb4;have U:w.1.size<y.1.size:=Yz hb4 (by first|(simp;done)|(simp;omega));have al:w.1.size+1<y.1.size:=Yz hb4 (by first|(simp;done)|(simp;omega));have aj:w.1.size+1+1<y.1.size:=Yz hb4 (by first|(simp;done)|(simp;omega));have ah:g.1.size<y.1.size:=Yz hb4 (by simp);have aa:w.1.size+1+1<g.1.size+1:=oz;have ag:¬w.1.size+1+1=g.1.size:=oz));exact bodyPost_ret (v:=.tuple #[.agg #[.int .i64 0,.int .i64 0],.int .i64 7]) (by simp only[results,results170];go_simp) rfl ⟨rfl,bZ012⟩
theorem Jk(p f k n d j g:Int)(w:World)(h:1<=p/\p<=2000/\0<=f/\f<=2000)(x:3<=k/\k<=8)(L:Jz k n d=true)(M:1<=j/\j<=2000/\0<=g/\g<=2000)
  (q:∀w,Calls prog 209 #[.agg #[.int .i64 p,.int .i64 f],.agg #[.int .i64 k,.int .i64 n,.int .i64 d]] w fun e w' =>
   e=.returned (.tuple #[.agg #[.int .i64 j,.int .i64 g],.bool true])/\Below w.1.size w w') :
  Calls prog 170 #[.agg #[.int .i64 p,.int .i64 f],.agg #[.int .i64 k,.int .i64 n,.int .i64 d]] w fun e w'=>e=.returned (Kj j g 0)/\Below w.1.size w w':=by
 have z:=Lib.hid (fun w=>Xj j g w M);have tok:=trivial;have R:=Lib.hid (fun w=>Xj p f w h);have J:=Lib.hid (fun w=>Jr k n d w x);rw[L] at J;have O:=Lib.hid q;have k1:=x.1;have k2:=x.2;clear h x L q;clear M;go_enter func170,ntmps170;go_wp2_with (first|(have _t:=tok;go_at_call 41;(with_reducible refine(R.out _).mono ?_);rintro e H ⟨rfl,hb1⟩;obtain⟨V,ab⟩:=arith.YE hb1;clear tok;have A:w.1.size<H.1.size:=Yz hb1 (by first|(simp;done)|(simp;omega));have F:w.1.size+1<H.1.size:=Yz hb1 (by first|(simp;done)|(simp;omega));have D:w.1.size+1+1<H.1.size:=Yz hb1 (by simp))|(go_at_call 208;(with_reducible refine(J.out _).mono ?_);rintro e I ⟨rfl,hb2⟩;obtain⟨X,ac⟩:=arith.YE hb2;have C:w.1.size<I.1.size:=Ys A hb2.size;have G:w.1.size+1<I.1.size:=Ys F hb2.size;have E:w.1.size+1+1<I.1.size:=Ys D hb2.size)|(go_at_call 209;(with_reducible refine(O.out _).mono ?_);rintro e m ⟨rfl,hb3⟩;obtain⟨Y,ae⟩:=arith.YE hb3;have T:w.1.size<m.1.size:=Ys C hb3.size;have ak:w.1.size+1<m.1.size:=Ys G hb3.size;have ai:w.1.size+1+1<m.1.size:=Ys E hb3.size)|(go_at_call 41;(with_reducible refine(z.out _).mono ?_);rintro e y ⟨rfl,hb4⟩;obtain⟨Z,af⟩:=arith.YE hb4;have U:w.1.size<y.1.size:=Yz hb4 (by first|(simp;done)|(simp;omega));have al:w.1.size+1<y.1.size:=Yz hb4 (by first|(simp;done)|(simp;omega));have aj:w.1.size+1+1<y.1.size:=Yz hb4 (by first|(simp;done)|(simp;omega));have ah:m.1.size<y.1.size:=Yz hb4 (by simp);have aa:w.1.size+1+1<m.1.size+1:=oz;have ag:¬w.1.size+1+1=m.1.size:=oz));exact bodyPost_ret (v:=.tuple #[.agg #[.int .i64 j,.int .i64 g],.int .i64 0]) (by simp only[results,results170];go_simp) rfl ⟨rfl,bZ012⟩
def fin(p f:Int):Int × Int × Int:=if f<=2000 then (p,f,0) else (0,0,7)
def YD(p f k n d:Int):Int × Int × Int :=
 if YG p f=false\/k<3\/8<k then (0,0,12)
 else if Jz k n d=false then (0,0,7)
 else if k=3 then (if p%n=0 then (p/n,f,0) else (0,0,5))
 else if k=4 then (if p*n<=2000 then (p*n,f,0) else (0,0,7))
 else if k=5 then (if p*n%d=0 then fin p (f+p*n/d) else (0,0,5))
 else if k=6 then (p,f,0)
 else if k=7 then fin p (f+p)
 else if p<=f then (p,f-p,0) else (0,0,5)
def yB(r:Int × Int × Int):Value:=Kj r.1 r.2.1 r.2.2
theorem gF(f:k=3\/k=4)(h:Jz k n d=true):1<=n/\n<=100:=by
 unfold Jz at h;have:=of_decide_eq_true h;omega
theorem Zg2(h:Jz 5 n d=true):1<=d/\d<=100/\0<=n/\n<=100:=by
 unfold Jz at h;have:=of_decide_eq_true h;omega
theorem ym(v:1<=p)(x:p<=2000)(j:1<=n)(m:p%n=0):1<=p/n/\p/n<=2000:=by
 have h:=plain.yU p n j;have q:=h.1 oz;refine⟨?_,oz⟩;apply Classical.byContradiction;intro g;have f:p/n=0:=oz;have:=Int.ediv_mul_add_emod p n;rw[f,m] at this;omega
theorem ZcI(h1:1<=p)(hn:1<=n):1<=p*n:=arith.U4 h1 hn
theorem VZ(p f k n d:Int)(w:World) :
  Calls prog 170 #[.agg #[.int .i64 p,.int .i64 f],.agg #[.int .i64 k,.int .i64 n,.int .i64 d]] w fun e w' =>
   e=.returned (yB (YD p f k n d))/\Below w.1.size w w':=by
 by_cases h:1<=p/\p<=2000/\0<=f/\f<=2000
 .have F:=Qd h;by_cases E:k<3\/8<k
  .have e:YD p f k n d=(0,0,12):=by unfold YD;rw[Yw (.inr E)]
   rw[e];exact vB p f k n d w h E
  have g:3<=k/\k<=8:=oz;have x:¬(YG p f=false\/k<3\/8<k):=by rw[F];simp;omega
  cases hn:Jz k n d with
  | false =>
   have e:YD p f k n d=(0,0,7):=by unfold YD;rw[Yv x,Yw hn]
   rw[e];exact xZ p f k n d w h g hn
  | true =>
   have y:¬(Jz k n d=false):=by rw[hn];simp
   have C:=h.1;have p2:=h.2.1;have f1:=h.2.2.1;have v:=h.2.2.2;have z:k=3\/k=4\/k=5\/k=6\/k=7\/k=8:=oz;rcases z with rfl|rfl|rfl|rfl|rfl|rfl
   .have j:=gF (.inl rfl) hn;by_cases m:p%n=0
    .have q:=ym C p2 j.1 m;have e:YD p f 3 n d=(p/n,f,0):=by unfold YD;rw[Yv x,Yv y,Yw rfl,Yw m]
     rw[e];refine Jk p f 3 n d (p/n) f w h g hn ⟨q.1,q.2,f1,v⟩ fun w=>?_
     have:=Gd p f n d w oz p2 f1 v j.1 j.2
     rwa [show(p%n == 0)=true by simpa using m] at this
    have e:YD p f 3 n d=(0,0,5):=by unfold YD;rw[Yv x,Yv y,Yw rfl,Yv m]
    rw[e];refine Ec p f 3 n d (p/n) f w h g hn fun w=>?_
    have:=Gd p f n d w oz p2 f1 v j.1 j.2
    rwa [show(p%n == 0)=false by simpa using m] at this
   .have j:=gF (.inr rfl) hn;have G:=ZcI C j.1;by_cases m:p*n<=2000
    .have e:YD p f 4 n d=(p*n,f,0):=by unfold YD;rw[Yv x,Yv y,Yv oz,Yw rfl,Yw m]
     rw[e];exact Jk p f 4 n d (p*n) f w h g hn ⟨G,m,f1,v⟩ fun w=>UT p f n d w oz p2 f1 v j.1 j.2
    have e:YD p f 4 n d=(0,0,7):=by unfold YD;rw[Yv x,Yv y,Yv oz,Yw rfl,Yv m]
    rw[e];exact Kk p f 4 n d (p*n) f w h g hn oz fun w=>UT p f n d w oz p2 f1 v j.1 j.2
   .have j:=Zg2 hn;by_cases m:p*n%d=0
    .have e:YD p f 5 n d=fin p (f+p*n/d):=by unfold YD;rw[Yv x,Yv y,Yv oz,Yv oz,Yw rfl,Yw m]
     have D:∀w,Calls prog 209 #[.agg #[.int .i64 p,.int .i64 f],.agg #[.int .i64 5,.int .i64 n,.int .i64 d]] w fun e w' =>
       e=.returned (.tuple #[.agg #[.int .i64 p,.int .i64 (f+p*n/d)],.bool true])/\Below w.1.size w w':=fun w=>by
      have:=US p f n d w oz p2 f1 v j.2.2.1 j.2.2.2 j.1 j.2.1
      rwa [show(p*n%d == 0)=true by simpa using m] at this
     have H:=Int.ediv_nonneg (Int.mul_nonneg (show 0<=p by omega) j.2.2.1) (show 0<=d by omega);rw[e];unfold fin;by_cases A:f+p*n/d<=2000
     .rw[Yw A];exact Jk p f 5 n d p (f+p*n/d) w h g hn ⟨C,p2,oz,A⟩ D
     rw[Yv A];exact Kk p f 5 n d p (f+p*n/d) w h g hn oz D
    have e:YD p f 5 n d=(0,0,5):=by unfold YD;rw[Yv x,Yv y,Yv oz,Yv oz,Yw rfl,Yv m]
    rw[e];refine Ec p f 5 n d p (f+p*n/d) w h g hn fun w=>?_
    have:=US p f n d w oz p2 f1 v j.2.2.1 j.2.2.2 j.1 j.2.1
    rwa [show(p*n%d == 0)=false by simpa using m] at this
   .have e:YD p f 6 n d=(p,f,0):=by unfold YD;rw[Yv x,Yv y,Yv oz,Yv oz,Yv oz,Yw rfl]
    rw[e];exact Jk p f 6 n d p f w h g hn h fun w=>vK p f n d w
   .have e:YD p f 7 n d=fin p (f+p):=by unfold YD;rw[Yv x,Yv y,Yv oz,Yv oz,Yv oz,Yv oz,Yw rfl]
    rw[e];unfold fin;by_cases A:f+p<=2000
    .rw[Yw A];exact Jk p f 7 n d p (f+p) w h g hn ⟨C,p2,oz,A⟩ fun w=>Ge p f n d w oz p2 f1 v
    rw[Yv A];exact Kk p f 7 n d p (f+p) w h g hn oz fun w=>Ge p f n d w oz p2 f1 v
   by_cases m:p<=f
   .have e:YD p f 8 n d=(p,f-p,0):=by unfold YD;rw[Yv x,Yv y,Yv oz,Yv oz,Yv oz,Yv oz,Yv oz,Yw m]
    rw[e];refine Jk p f 8 n d p (f-p) w h g hn ⟨C,p2,oz,oz⟩ fun w=>?_
    have:=Gc p f n d w oz p2 f1 v
    rwa [show decide (p<=f)=true by simpa using m] at this
   have e:YD p f 8 n d=(0,0,5):=by unfold YD;rw[Yv x,Yv y,Yv oz,Yv oz,Yv oz,Yv oz,Yv oz,Yv m]
   rw[e];refine Ec p f 8 n d p (f-p) w h g hn fun w=>?_
   have:=Gc p f n d w oz p2 f1 v
   rwa [show decide (p<=f)=false by simpa using m] at this
 have e:YD p f k n d=(0,0,12):=by unfold YD;rw[Yw (.inl (Ka h))]
 rw[e];exact qa p f k n d w h
def YL:Int->Int->List (Int × Int × Int)->Int × Int × Int
 | p,f,[]=>(p,f,0)
 | p,f,o::l=>let r:=YD p f o.1 o.2.1 o.2.2;if r.2.2=0 then YL r.1 r.2.1 l else (0,0,r.2.2)
def V9(p f:Int)(l:List (Int × Int × Int)):Int × Int × Int:=if YG p f=true then YL p f l else (0,0,12)
theorem eO(p f:Int)(v:Value)(w:World)(h:¬(1<=p/\p<=2000/\0<=f/\f<=2000)) :
  Calls prog 172 #[.agg #[.int .i64 p,.int .i64 f],v] w fun e w'=>e=.returned (Kj 0 0 12)/\Below w.1.size w w':=by
 have j:=Lib.hid (fun w=>Q3 p f w h);clear h;go_enter func172,ntmps172;go_wp2_with (go_at_call 41;(with_reducible refine(j.out _).mono ?_);rintro e g ⟨rfl,hb1⟩;obtain⟨q,x⟩:=arith.YE hb1;have m:w.1.size<g.1.size:=Yz hb1 (by first|(simp;done)|(simp;omega));have y:w.1.size+1<g.1.size:=Yz hb1 (by simp));exact bodyPost_ret (v:=.tuple #[.agg #[.int .i64 0,.int .i64 0],.int .i64 12]) (by simp only[results,results172];go_simp) rfl ⟨rfl,(by repeat (first|exact Below.refl _ _|(refine Below.setCell ?_ oz _)|(refine Below.alloc ?_ oz _)|(refine Below.trans ?_ (hb1.mono oz))))⟩
def vp(B:Nat)(w:World)(p f:Int)(l:List (Int × Int × Int))(k:Nat)(p' f':Int)(wr:World):Prop :=
 YL p' f' (l.drop k)=YL p f l/\Below B w wr/\B+1<wr.1.size /\
 wr.cell? ⟨B,0,none⟩=some (.int .i64 p')/\wr.cell? ⟨B,1,none⟩=some (.int .i64 f')/\wr.cell? ⟨B+1,0,none⟩=some (.int .i64 0)/\wr.cell? ⟨B+1,1,none⟩=some (.int .i64 0) /\
 wr.frozen? ⟨B,0,none⟩=false/\wr.frozen? ⟨B,1,none⟩=false/\wr.frozen? ⟨B+1,0,none⟩=false/\wr.frozen? ⟨B+1,1,none⟩=false
theorem xX{w wr w2:World}{k:Nat}{H C p2 m:Int}{o G:Obj}(h:vp B w p f l k H C wr)
  (E:YL p2 m (l.drop (k+1))=YL p f l)(hb:Below (wr.alloc o).1.size (wr.alloc o) w2) :
  vp B w p f l (k+1) p2 m (((w2.setCell ⟨B,0,none⟩ (.int .i64 p2)).setCell ⟨B,1,none⟩ (.int .i64 m)).alloc G):=by
 obtain⟨D,v,j,c0,c1,c2,c3,x,y,z,A⟩:=h;have F:=hb.size;rw[World.size_alloc] at F;have g:Below wr.1.size wr w2:=Below.trans ((Below.refl _ _).alloc (Yr _) o) (hb.mono (by rw[World.size_alloc];omega));have s0:B<wr.1.size:=oz;have s3:B<w2.1.size:=oz;have s4:B+1<w2.1.size:=oz;have I:=(g.cell (p:=⟨B,0,none⟩) s0).trans c0;have J:=(g.cell (p:=⟨B,1,none⟩) s0).trans c1;have L:=(g.cell (p:=⟨B+1,0,none⟩) j).trans c2;have M:=(g.cell (p:=⟨B+1,1,none⟩) j).trans c3;have O:=(g.frozen (p:=⟨B,0,none⟩) s0).trans x;have R:=(g.frozen (p:=⟨B,1,none⟩) s0).trans y;have T:=(g.frozen (p:=⟨B+1,0,none⟩) j).trans z;have U:=(g.frozen (p:=⟨B+1,1,none⟩) j).trans A;have q:Below B w w2:=v.trans (g.mono oz);clear g hb v c0 c1 c2 c3 x y z A D;refine⟨E,?_,?_,?_,?_,?_,?_,?_,?_,?_,?_⟩
 .exact Below.alloc (Below.setCell (Below.setCell q (Yr _) _) (Yr _) _) (by simp;omega) _
 .simp;omega
 all_goals go_simp
theorem Un(hd:l=(k,n,d)::r)(m:YD p f k n d=(p2,j,0))(g:YL p f l=X):YL p2 j r=X:=by
 rw[hd,YL] at g;simp only[m] at g;rw[Yw trivial] at g;exact g
theorem vA{p f k n d p2 j e:Int}(hd:l=(k,n,d)::r)(q:YD p f k n d=(p2,j,e))(m:¬e=0)(g:YL p f l=X):X=(0,0,e):=by
 rw[hd,YL] at g;simp only[q] at g;rw[Yv m] at g;exact g.symm
theorem vY{k:Nat}(h:k<l.length):l.drop k=l.getD k (0,0,0)::l.drop (k+1):=by
 rw[List.drop_eq_getElem_cons h,plain.getD_lt _ h]
theorem ZdW(p f:Int)(a:Option Addr)(cap:Nat)(l:List (Int × Int × Int))(w:World)(h:1<=p/\p<=2000/\0<=f/\f<=2000)(hl:l.length<=9223372036854775807)
  (g:∀k,k<l.length->∃b off,a=some ⟨b,off,none⟩/\b<w.1.size/\w.cell? ⟨b,off+k*3,none⟩=some (.int .i64 (l.getD k (0,0,0)).1)/\w.cell? ⟨b,off+k*3+1,none⟩=some (.int .i64 (l.getD k (0,0,0)).2.1)/\w.cell? ⟨b,off+k*3+2,none⟩=some (.int .i64 (l.getD k (0,0,0)).2.2)) :
  Calls prog 172 #[.agg #[.int .i64 p,.int .i64 f],.slice a l.length cap] w fun e w'=>e=.returned (yB (YL p f l))/\Below w.1.size w w':=by
 have HR:=Lib.hid (fun w=>Xj p f w h);have HC:=Lib.hid g;clear h g;go_enter func172,ntmps172;go_wp2_with (go_at_call 41;(with_reducible refine(HR.out _).mono ?_);rintro e w1 ⟨rfl,hb1⟩;obtain⟨J,M⟩:=arith.YE hb1;have H:w.1.size<w1.1.size:=Yz hb1 (by first|(simp;done)|(simp;omega));have C:w.1.size+1<w1.1.size:=Yz hb1 (by simp));go_loopw [16] (fun i wr=>∃(k:Nat)(x q:Int),k<=l.length/\i=.int .i64 k/\vp w.1.size w p f l k x q wr) (fun i _=>l.length-(intOf i).toNat)
 case atStart =>
  refine⟨0,p,f,oz,rfl,rfl,?_,C,?_,?_,?_,?_,?_,?_,?_,?_⟩
  .exact Below.trans (((Below.refl _ _).alloc oz _).alloc oz _) (hb1.mono oz)
  all_goals go_simp
 obtain⟨k,x,q,hk,rfl,hrel⟩:=hrel;have y:=Lib.hid hrel;obtain⟨X,Y,hz,c0,c1,c2,c3,z0,z1,z2,z3⟩:=hrel;have F:=Lib.hid X;have HB:=Lib.hid Y;clear X Y J M hb1 H C;have ha:w.1.size<wr.1.size:=oz;by_cases A:k<l.length
 .have hd:=Lib.hid (vY A);obtain⟨b,off,rfl,I,T,U,V⟩:=HC.out k A;rw[<-HB.out.cell (p:=⟨b,_,none⟩) I] at T U V;generalize l.getD k (0,0,0)=o at *;obtain⟨ok,on,Z⟩:=o;simp only at T U V;generalize hr:YD x q ok on Z=r;obtain⟨p2,f2,G⟩:=r;have m:=Lib.hid (fun w=>VZ x q ok on Z w);simp only[hr,yB,Kj] at m;have R:=Lib.hid hr;clear hr;have n1:¬w.1.size=wr.1.size:=oz;have n2:¬w.1.size+1=wr.1.size:=oz;have s1:w.1.size<wr.1.size+1:=oz;have s2:w.1.size+1<wr.1.size+1:=oz;by_cases D:G=0
  .subst D;go_wp2_with (go_at_call 170;(with_reducible refine(m.out _).mono ?_);rintro e j ⟨rfl,hb2⟩;have HB2:=Lib.hid hb2;obtain⟨L,O⟩:=arith.YE hb2;have s3:w.1.size<j.1.size:=Yz hb2 oz;have s4:w.1.size+1<j.1.size:=Yz hb2 oz;have n3:¬w.1.size=j.1.size:=oz;have n4:¬w.1.size+1=j.1.size:=oz);go_roundw
   case rel=>exact⟨k+1,p2,f2,oz,by go_num,xX y.out (Un hd.out R.out F.out) HB2.out⟩
   simp[intOf];omega
  have aa:(G != 0)=true:=by simpa using D
  have E:=Lib.hid (vA hd.out R.out D F.out);clear D;go_wp2_with (go_at_call 170;(with_reducible refine(m.out _).mono ?_);rintro e j ⟨rfl,hb2⟩;have HB2:=Lib.hid hb2;obtain⟨L,O⟩:=arith.YE hb2;have s3:w.1.size<j.1.size:=Yz hb2 oz;have s4:w.1.size+1<j.1.size:=Yz hb2 oz;have n3:¬w.1.size=j.1.size:=oz;have n4:¬w.1.size+1=j.1.size:=oz);exact bodyPost_ret (v:=.tuple #[.agg #[.int .i64 0,.int .i64 0],.int .i64 G]) (by simp only[results,results172];go_simp) rfl ⟨by rw[E.out];rfl,(by repeat (first|exact Below.refl _ _|exact HB.out|(refine Below.setCell ?_ oz _)|(refine Below.alloc ?_ oz _)|(refine Below.trans ?_ (HB2.out.mono oz))))⟩
 have z:k=l.length:=oz;have E:Hid (YL p f l=(x,q,0)):=by have:=F.out;rw[z,List.drop_length,YL] at this;exact this.symm
 subst z;go_wp2;exact bodyPost_ret (v:=.tuple #[.agg #[.int .i64 x,.int .i64 q],.int .i64 0]) (by simp only[results,results172];go_simp) rfl ⟨by rw[E.out];rfl,(by repeat (first|exact Below.refl _ _|exact HB.out|(refine Below.setCell ?_ oz _)|(refine Below.alloc ?_ oz _)))⟩
