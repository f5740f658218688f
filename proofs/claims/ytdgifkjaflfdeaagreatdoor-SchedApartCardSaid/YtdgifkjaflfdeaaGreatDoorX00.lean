/- Parts of the proof. -/
import Derived.BigQuiet
import Derived.Handy
import Derived.Lib.Hide
import Derived.Test.YtdgifkjaflfdeaaGreatDoorChecked
namespace Go.Proofs.YtdgifkjaflfdeaaGreatDoor
variable {p:Prop}
theorem oz(h : p := by first | omega | (simp; done) | (simp; omega)) : p := h
theorem kz(h : p := by kernel_rfl) : p := h
theorem Yr:type_of% @Nat.le_refl:=@Nat.le_refl
theorem Ys:type_of% @Nat.lt_of_lt_of_le:=@Nat.lt_of_lt_of_le
theorem Yt:type_of% @beq_eq_false_iff_ne:=@beq_eq_false_iff_ne
theorem Yu:type_of% @decide_eq_false:=@decide_eq_false
theorem Yv:type_of% @if_neg:=@if_neg
theorem Yw:type_of% @if_pos:=@if_pos
end Go.Proofs.YtdgifkjaflfdeaaGreatDoor
set_option linter.all false
set_option maxRecDepth 100000
set_option maxHeartbeats 16000000
namespace Go.Proofs.YtdgifkjaflfdeaaGreatDoor.plain
open Tryz
open Go.RowKit (wrap64)
variable {p q r:Prop}{α:Type}{k:Nat}
theorem xH(n d:Int)(hd:1<=d):n.tdiv d=if n.tmod d<0 then n/d+1 else n/d:=by
 have j:=Int.mul_tdiv_add_tmod n d;have m:=Int.mul_ediv_add_emod n d;have x:=Int.emod_nonneg n (show d≠0 by omega);have v:=Int.emod_lt_of_pos n (show 0<d by omega);have q:=Int.tmod_lt_of_pos n (show 0<d by omega);have hb:-d<n.tmod d:=by
  have:=Int.lt_tmod_of_pos n (show 0<d by omega);omega
 split
 .rename_i h
  have g:d*(n.tdiv d-(n/d+1))=n%d-n.tmod d-d:=by rw[Int.mul_sub,Int.mul_add];omega
  have:n.tdiv d-(n/d+1)=0:=by
   apply Classical.byContradiction;intro f;rcases Int.lt_or_gt_of_ne f with h1|h1
   .have:d*(n.tdiv d-(n/d+1))<=d*(-1):=Int.mul_le_mul_of_nonneg_left oz oz;omega
   have:d*1<=d*(n.tdiv d-(n/d+1)):=Int.mul_le_mul_of_nonneg_left oz oz;omega
  omega
 rename_i h
 have g:d*(n.tdiv d-n/d)=n%d-n.tmod d:=by rw[Int.mul_sub];omega
 have:n.tdiv d-n/d=0:=by
  apply Classical.byContradiction;intro f;rcases Int.lt_or_gt_of_ne f with h1|h1
  .have:d*(n.tdiv d-n/d)<=d*(-1):=Int.mul_le_mul_of_nonneg_left oz oz;omega
  have:d*1<=d*(n.tdiv d-n/d):=Int.mul_le_mul_of_nonneg_left oz oz;omega
 omega
theorem eG(n d:Int)(hd:1<=d):n.tmod d=if n.tmod d<0 then n%d-d else n%d:=by
 have g:=Int.mul_tdiv_add_tmod n d;have j:=Int.mul_ediv_add_emod n d;have f:=xH n d hd;by_cases h:n.tmod d<0
 .rw[Yw h] at f ⊢;rw[f,Int.mul_add] at g;omega
 rw[Yv h] at f ⊢;rw[f] at g;omega
theorem yU(n d:Int)(hd:1<=d):(0<=n->0<=n/d/\n/d<=n)/\(n<0->n<=n/d/\n/d<0):=by
 constructor
 .intro h;exact⟨Int.ediv_nonneg h oz,Int.ediv_le_self _ h⟩
 intro h;refine⟨?_,Int.ediv_neg_of_neg_of_pos h oz⟩;rw[Int.le_ediv_iff_mul_le oz];have:n*d<=n*1:=Int.mul_le_mul_of_nonpos_left oz oz;omega
theorem Zaq(n d:Int)(hd:1<=d)(g:-9223372036854775808<=n)(j:n<=9223372036854775807)(m:d<=9223372036854775807)(h:n.tmod d<0) :
  wrap64 (n.tdiv d-1)=n/d/\wrap64 (n.tmod d+d)=n%d:=by
 have a:=xH n d hd;have b:=eG n d hd;have c:=yU n d hd;have v:=Int.emod_nonneg n (show d≠0 by omega);have q:=Int.emod_lt_of_pos n (show 0<d by omega);rw[Yw h] at a b;rw[a,b];by_cases f:0<=n
 .have:=c.1 f;constructor<;>(refine Eq.trans (IntWalk.wrap64_in _ oz) oz)
 have:=c.2 oz;constructor<;>(refine Eq.trans (IntWalk.wrap64_in _ oz) oz)
theorem yY(n d:Int)(hd:1<=d)(h:0<=n.tmod d):n.tdiv d=n/d/\n.tmod d=n%d:=by
 have a:=xH n d hd;have b:=eG n d hd;rw[Yv oz] at a b;exact⟨a,b⟩
theorem ZcK(a b:Int)(f:¬a=0)(hb:¬b=0):a*b<0↔¬(a<0↔b<0):=by
 rcases Int.lt_or_gt_of_ne f with h|h<;>rcases Int.lt_or_gt_of_ne hb with k|k
 .have:=Int.mul_pos_of_neg_of_neg h k;omega
 .have:=Int.mul_neg_of_neg_of_pos h k;omega
 .have:=Int.mul_neg_of_pos_of_neg h k;omega
 have:=Int.mul_pos h k;omega
theorem ZcJ(a b:Int)(D:-9223372036854775808<=a)(E:a<=9223372036854775807)(F:-9223372036854775808<=b)(G:b<=9223372036854775807)
  (I:¬a=0)(hb:¬b=0)(h:a*b < -9223372036854775808\/9223372036854775807<a*b)
  (g:wrap64 ((wrap64 (a*b)).tdiv b)=a):¬(wrap64 (a*b)<0↔¬(a<0↔b<0)):=by
 have z:∃k:Int,wrap64 (a*b)=a*b+18446744073709551616*k/\-9223372036854775808<=wrap64 (a*b)/\wrap64 (a*b)<=9223372036854775807:=by
  refine⟨-((a*b+9223372036854775808)/18446744073709551616),?_⟩;unfold wrap64;omega
 obtain⟨k,J,v,x⟩:=z;generalize wrap64 (a*b)=p at *;have j:=Int.mul_tdiv_add_tmod p b;have L:(p.tmod b).natAbs<b.natAbs:=by
  have:=Int.natAbs_tmod p b;rw[this];exact Nat.mod_lt _ oz
 have C:(p.tdiv b).natAbs<=p.natAbs:=by rw[Int.natAbs_tdiv];exact Nat.div_le_self _ _
 by_cases f:p.tdiv b<=9223372036854775807
 .rw[IntWalk.wrap64_in _ ⟨oz,f⟩] at g;rw[g] at j;have H:b*a=a*b:=Int.mul_comm _ _;omega
 have M:wrap64 (p.tdiv b)=-9223372036854775808:=by unfold wrap64;omega
 have A:p=-9223372036854775808:=oz;have m:a=-9223372036854775808:=oz;have q:b<0:=by
  apply Classical.byContradiction;intro y;have:p.tdiv b<=0:=by
   have:=Int.tdiv_nonneg (show 0<=-p by omega) (show 0<=b by omega);rw[Int.neg_tdiv] at this;omega
  omega
 omega
theorem ZeN[Decidable p][Decidable q][Decidable r](h:p↔¬(q↔r)):(!(decide p == !(decide q == decide r)))=false:=by
 by_cases f:p<;>by_cases g:q<;>by_cases j:r<;>simp_all
theorem Zdl[Decidable p][Decidable q][Decidable r](h:¬(p↔¬(q↔r))):(!(decide p == !(decide q == decide r)))=true:=by
 by_cases f:p<;>by_cases g:q<;>by_cases j:r<;>simp_all
theorem getD_lt{l:List α}(d:α)(h:k<l.length):l.getD k d=l[k]:=by
 rw[List.getD_eq_getElem?_getD,List.getElem?_eq_getElem h,Option.getD_some]
theorem Zcc{l:List α}(d:α)(h:k<l.length):l.getD k d∈l:=by
 rw[getD_lt d h];exact List.getElem_mem h
end Go.Proofs.YtdgifkjaflfdeaaGreatDoor.plain
namespace Go.Proofs.YtdgifkjaflfdeaaGreatDoor.arith
open Tryz
open Go.RowKit
theorem jI{a b c d:Int}(h:a=b)(f:c=d):Ending.returned (.tuple #[.int .i64 a,.int .i64 c])=.returned (.tuple #[.int .i64 b,.int .i64 d]):=by rw[h,f]
theorem Zar(n d:Int)(w:World)(hd:1<=d)(g:-9223372036854775808<=n)(j:n<=9223372036854775807)(q:d<=9223372036854775807) :
  Calls prog 256 #[.int .i64 n,.int .i64 d] w fun e w'=>e=.returned (.tuple #[.int .i64 (n/d),.int .i64 (n%d)])/\∃m,w'=w.drewN m:=by
 go_enter func256,ntmps256;go_wp2;go_quiet (fail);go_wp2
 all_goals go_ret2
 .have f:n.tmod d<0:=by assumption
  have H:=plain.Zaq n d hd g j q f;exact⟨jI H.1 H.2,_,rfl⟩
 have f:0<=n.tmod d:=by assumption
 have H:=plain.yY n d hd f;exact⟨jI H.1 H.2,_,rfl⟩
theorem Zeq(a b:Int)(w:World)(g:-9223372036854775808<=a)(j:a<=9223372036854775807)(x:-9223372036854775808<=b)(y:b<=9223372036854775807)
  (f:¬a=0)(hb:¬b=0)(z:-9223372036854775808<=a*b)(A:a*b<=9223372036854775807) :
  Calls prog 210 #[.int .i64 a,.int .i64 b] w fun e w'=>e=.returned (.tuple #[.int .i64 (a*b),.bool true])/\∃m,w'=w.drewN m:=by
 have q:(a == 0)=false:=by simpa using f
 have v:(b == 0)=false:=by simpa using hb
 have C:=plain.ZeN (plain.ZcK a b f hb);have D:wrap64 a=a:=IntWalk.wrap64_in a ⟨g,j⟩;go_enter func210,ntmps210;go_wp2;go_ret2;exact⟨rfl,0,rfl⟩
theorem Zf2(a b:Int)(w:World)(g:-9223372036854775808<=a)(j:a<=9223372036854775807)(q:-9223372036854775808<=b)(v:b<=9223372036854775807)
  (f:¬a=0)(hb:¬b=0)(h:a*b < -9223372036854775808\/9223372036854775807<a*b) :
  Calls prog 210 #[.int .i64 a,.int .i64 b] w fun e w'=>e=.returned (.tuple #[.int .i64 0,.bool false])/\∃m,w'=w.drewN m:=by
 have x:(a == 0)=false:=by simpa using f
 have y:(b == 0)=false:=by simpa using hb
 by_cases z:wrap64 ((wrap64 (a*b)).tdiv b)=a
 .have A:=plain.Zdl (plain.ZcJ a b g j q v f hb h z);go_enter func210,ntmps210;go_wp2;go_ret2;exact⟨rfl,0,rfl⟩
 go_enter func210,ntmps210;go_wp2;go_ret2;exact⟨rfl,0,rfl⟩
theorem below_drewN{B:Nat}{a w:World}(h:Below B a w)(n:Nat):Below B a (w.drewN n):=⟨h.os,h.tape,h.output,h.size,h.block⟩
theorem YE{W w1:World}(hb:Below W.1.size W w1):(∀b o,b<W.1.size->w1.cell? ⟨b,o,none⟩=W.cell? ⟨b,o,none⟩)/\(∀b o,b<W.1.size->w1.frozen? ⟨b,o,none⟩=W.frozen? ⟨b,o,none⟩) :=
 ⟨fun b o h=>hb.cell (p:=⟨b,o,none⟩) h,fun b o h=>hb.frozen (p:=⟨b,o,none⟩) h⟩
theorem U4{a b:Int}(f:1<=a)(hb:1<=b):1<=a*b:=by
 have:=Int.mul_le_mul f hb oz oz;omega
end Go.Proofs.YtdgifkjaflfdeaaGreatDoor.arith
namespace Go.Proofs.YtdgifkjaflfdeaaGreatDoor.clock
open Tryz
open Go.RowKit
variable {n a b p f:Int}
def kI(n a b:Int):Bool:=decide (a<=n/\n<=b)
theorem GU(f:a<=n)(g:n<=b):kI n a b=true:=by unfold kI;simp;omega
theorem zo(h:n<a\/b<n):kI n a b=false:=by unfold kI;simp;omega
theorem X9{a b:Bool}(h:a=b):Ending.returned (.bool a)=.returned (.bool b):=by rw[h]
theorem Qn(n a b:Int)(w:World) :
  Calls prog 86 #[.int .i64 n,.int .i64 a,.int .i64 b] w fun e w'=>e=.returned (.bool (kI n a b))/\w=w':=by
 by_cases f:a<=n
 .by_cases g:n<=b
  .have E:=Lib.hid (GU f g);go_enter func86,ntmps86;go_wp2;go_ret;exact⟨X9 (by rw[E.out];try (simp;omega)),rfl⟩
  have E:=Lib.hid (zo (n:=n) (a:=a) (b:=b) oz);have m:b<n:=oz;clear g;go_enter func86,ntmps86;go_wp2;go_ret;exact⟨X9 (by rw[E.out];try (simp;omega)),rfl⟩
 have E:=Lib.hid (zo (n:=n) (a:=a) (b:=b) oz);have j:n<a:=oz;clear f;go_enter func86,ntmps86;go_wp2;go_ret;exact⟨X9 (by rw[E.out];try (simp;omega)),rfl⟩
theorem Vr(n a b:Int)(w:World)(f:a<=n)(g:n<=b) :
  Calls prog 86 #[.int .i64 n,.int .i64 a,.int .i64 b] w fun e w'=>e=.returned (.bool true)/\w=w':=by
 have H:=Qn n a b w;rwa [GU f g] at H
theorem K4(n a b:Int)(w:World)(h:n<a\/b<n) :
  Calls prog 86 #[.int .i64 n,.int .i64 a,.int .i64 b] w fun e w'=>e=.returned (.bool false)/\w=w':=by
 have H:=Qn n a b w;rwa [zo h] at H
def YG(p f:Int):Bool:=decide (1<=p/\p<=2000/\0<=f/\f<=2000)
theorem Qd(h:1<=p/\p<=2000/\0<=f/\f<=2000):YG p f=true:=by unfold YG;simp;omega
theorem Ka(h:¬(1<=p/\p<=2000/\0<=f/\f<=2000)):YG p f=false:=by unfold YG;simp;omega
theorem Xz:YG p f=true↔(1<=p/\p<=2000/\0<=f/\f<=2000):=by unfold YG;simp
theorem Xj(p f:Int)(w:World)(h:1<=p/\p<=2000/\0<=f/\f<=2000) :
  Calls prog 41 #[.agg #[.int .i64 p,.int .i64 f]] w fun e w'=>e=.returned (.bool true)/\Below w.1.size w w':=by
 go_enter func41,ntmps41;go_wp2_with (first|(go_at_call 86;refine(Vr _ _ _ _ oz oz).mono ?_;rintro e w' ⟨rfl,rfl⟩));go_ret;exact⟨rfl,(Below.refl _ _).alloc (Yr _) _⟩
theorem Q3(p f:Int)(w:World)(h:¬(1<=p/\p<=2000/\0<=f/\f<=2000)) :
  Calls prog 41 #[.agg #[.int .i64 p,.int .i64 f]] w fun e w'=>e=.returned (.bool false)/\Below w.1.size w w':=by
 by_cases q:1<=p/\p<=2000
 .have m:f<0\/2000<f:=oz;clear h;have g:=Lib.hid (fun w=>K4 f 0 2000 w m);go_enter func41,ntmps41;go_wp2_with (first|(go_at_call 86;with_reducible refine(g.out _).mono ?_;rintro e w' ⟨rfl,rfl⟩)|(go_at_call 86;refine(Vr _ _ _ _ oz oz).mono ?_;rintro e w' ⟨rfl,rfl⟩));go_ret;exact⟨rfl,(Below.refl _ _).alloc (Yr _) _⟩
 have j:p<1\/2000<p:=oz;clear h q;have g:=Lib.hid (fun w=>K4 p 1 2000 w j);go_enter func41,ntmps41;go_wp2_with (go_at_call 86;refine(g.out _).mono ?_;rintro e w' ⟨rfl,rfl⟩);go_ret;exact⟨rfl,(Below.refl _ _).alloc (Yr _) _⟩
theorem Qc(p f:Int)(w:World) :
  Calls prog 41 #[.agg #[.int .i64 p,.int .i64 f]] w fun e w'=>e=.returned (.bool (YG p f))/\Below w.1.size w w':=by
 by_cases h:1<=p/\p<=2000/\0<=f/\f<=2000
 .rw[Qd h];exact Xj p f w h
 rw[Ka h];exact Q3 p f w h
theorem ZbP(p f n:Int)(w:World)(h:1<=p/\p<=2000/\0<=f/\f<=2000)(j:0<=n)(m:n<=1099511627776) :
  Calls prog 33 #[.agg #[.int .i64 p,.int .i64 f],.int .i64 n] w fun e w'=>e=.returned (.int .i64 (f+n*p))/\Below w.1.size w w':=by
 have x:0<=n*p:=Int.mul_nonneg j oz;have y:n*p<=1099511627776*2000:=Int.mul_le_mul m oz oz oz;have z:wrap64 (n*p)=n*p:=IntWalk.wrap64_in _ oz;have g:=Lib.hid (fun w=>Xj p f w h);go_enter func33,ntmps33;go_wp2_with (first|(go_at_call 41;refine(g.out _).mono ?_;rintro e A ⟨rfl,hb⟩;obtain⟨q,v⟩:=arith.YE hb)|(go_at_call 86;refine(Vr _ _ _ _ oz oz).mono ?_;rintro e w' ⟨rfl,rfl⟩));go_ret;exact⟨rfl,((Below.refl _ _).alloc (Yr _) _).trans (hb.mono (by simp))⟩
end Go.Proofs.YtdgifkjaflfdeaaGreatDoor.clock
namespace Go.Proofs.YtdgifkjaflfdeaaGreatDoor.arith
open Tryz
open Go.RowKit
variable {a b x c:Int}{l:List Int}{k:Nat}
def XI(a b:Int):Int:=((Nat.gcd a.toNat b.toNat:Nat):Int)
def GX(a b:Int)(x y:Nat):Prop:=Nat.gcd x y=Nat.gcd a.toNat b.toNat/\x<=9223372036854775807/\y<=9223372036854775807
theorem qw{x y:Nat}(h:GX a b x y)(hy:y≠0):GX a b y (x%y):=by
 obtain⟨f,j,g⟩:=h;refine⟨?_,g,?_⟩
 .rw[<-f,Nat.gcd_comm x y,Nat.gcd_rec y x,Nat.gcd_comm]
 have:=Nat.mod_le x y;omega
theorem zZ(h:0<=a):Value.int .i64 a=.int .i64 (a.toNat:Int):=by rw[Int.toNat_of_nonneg h]
theorem qI(h:a<0):Value.int .i64 0=.int .i64 (a.toNat:Int):=by rw[show((a.toNat:Nat):Int)=0 by omega]
theorem Zei{u:Nat}(h:GX a b u 0):Ending.returned (.int .i64 (u:Int))=.returned (.int .i64 (XI a b)):=by
 have:=h.1;unfold XI;rw[<-this,Nat.gcd_zero_right]
theorem gI(a b:Int)(w:World)(A:-9223372036854775808<=a)(C:a<=9223372036854775807)(D:-9223372036854775808<=b)(E:b<=9223372036854775807) :
  Calls prog 211 #[.int .i64 a,.int .i64 b] w fun e w'=>e=.returned (.int .i64 (XI a b))/\∃m,w'=w.drewN m:=by
 go_enter func211,ntmps211;go_wp2
 all_goals
  go_loopw [0,1] (fun x y wr=>∃u v:Nat,GX a b u v/\x=.int .i64 u/\y=.int .i64 v/\∃m,wr=w.drewN m) (fun _ y _=>(intOf y).toNat)
  case atStart=>exact⟨a.toNat,b.toNat,⟨rfl,oz,oz⟩,by first|exact zZ (by assumption)|exact qI (by assumption),by first|exact zZ (by assumption)|exact qI (by assumption),0,rfl⟩
  obtain⟨u,v,f,rfl,rfl,m,rfl⟩:=hrel;have g:Hid (GX a b u v):=f;have F:u<=9223372036854775807:=f.2.1;have G:v<=9223372036854775807:=f.2.2;clear f;by_cases j:v=0
  .subst j;go_wp2;go_ret;exact⟨Zei g.out,m,rfl⟩
  have hb:((v:Int) == 0)=false:=by simp;omega
  have z:((v:Int) != 0)=true:=by simp;omega
  have q:(1:Int)<=v:=oz;go_wp2;go_quiet (fail);go_wp2;go_roundw
  case rel=>exact⟨v,u%v,qw g.out j,rfl,by go_num,_,World.drewN_drewN ..⟩
  have:=Nat.mod_lt u (show 0<v by omega);simp[intOf];omega
def YX:Int->List Int->Option Int
 | c,[]=>some c
 | c,x::r=>if x<1 then none else if 9223372036854775807<c/XI c x*x then none else YX (c/XI c x*x) r
def ZfW:Option Int->Value
 | none=>.tuple #[.int .i64 0,.bool false]
 | some c=>.tuple #[.int .i64 c,.bool true]
def Zbo(w:World)(v:Value)(l:List Int):Prop :=
 (∃a cap,v=.slice a 0 cap/\l=[])\/∃b off cap,v=.slice (some ⟨b,off,none⟩) l.length cap/\∀k,k<l.length->w.cell? ⟨b,off+k,none⟩=some (.int .i64 (l.getD k 0))
theorem Kw(f:1<=c):1<=XI c x:=by
 unfold XI;have:=Nat.gcd_pos_of_pos_left x.toNat (show 0<c.toNat by omega);omega
theorem qu(f:1<=c):XI c x<=c:=by
 unfold XI;have:=Nat.gcd_le_left x.toNat (show 0<c.toNat by omega);omega
theorem xp(f:1<=c):1<=c/XI c x:=by
 have g:=Kw (x:=x) f;have j:=qu (x:=x) f;rw[Int.le_ediv_iff_mul_le oz];omega
theorem KR(hc:1<=c):c/XI c x<=c:=Int.ediv_le_self _ oz
theorem Ks(h:k<l.length):l.drop k=l.getD k 0::l.drop (k+1):=by
 rw[List.drop_eq_getElem_cons h,plain.getD_lt 0 h]
theorem Zeo{l:List Int}{k:Nat}{c:Int}(h:k<l.length)(f:l.getD k 0<1)(H:YX c (l.drop k)=YX 1 l):YX 1 l=none:=by
 rw[<-H,Ks h,YX,Yw f]
theorem Zcx{l:List Int}{k:Nat}{c:Int}(h:k<l.length)(g:1<=l.getD k 0)(f:9223372036854775807<c/XI c (l.getD k 0)*l.getD k 0)(H:YX c (l.drop k)=YX 1 l):YX 1 l=none:=by
 rw[<-H,Ks h,YX,Yv oz,Yw f]
theorem Zcw{l:List Int}{k:Nat}{c:Int}(h:k<l.length)(g:1<=l.getD k 0)(f:c/XI c (l.getD k 0)*l.getD k 0<=9223372036854775807)(H:YX c (l.drop k)=YX 1 l) :
  YX (c/XI c (l.getD k 0)*l.getD k 0) (l.drop (k+1))=YX 1 l:=by
 rw[<-H,Ks h,YX,Yv oz,Yv oz]
theorem Zcv(h:l.length<=k)(H:YX c (l.drop k)=YX 1 l):YX 1 l=some c:=by
 rw[<-H,List.drop_eq_nil_of_le h,YX]
theorem Zen(l:List Int)(v:Value)(w:World)(V:Zbo w v l)(T:l.length<=9223372036854775807)(F:∀x∈l,x<=9223372036854775807) :
  Calls prog 171 #[v] w fun e w'=>e=.returned (ZfW (YX 1 l))/\∃m,w'=w.drewN m:=by
 rcases V with ⟨a,cap,rfl,rfl⟩|⟨b,off,cap,rfl,hc⟩
 .clear F T;go_enter func171,ntmps171;go_wp2;go_rounds 1;go_ret2;exact⟨rfl,0,rfl⟩
 have O:Hid (∀k,k<l.length->w.cell? ⟨b,off+k,none⟩=some (.int .i64 (l.getD k 0))):=hc;have R:Hid (∀x∈l,x<=9223372036854775807):=F;clear hc F;go_enter func171,ntmps171;go_wp2;go_loopw [4,11] (fun c i wr=>∃(n:Int)(k:Nat),k<=l.length/\1<=n/\n<=9223372036854775807/\Hid (YX n (l.drop k)=YX 1 l)/\c=.int .i64 n/\i=.int .i64 k/\∃m,wr=w.drewN m) (fun _ i _=>l.length-(intOf i).toNat)
 case atStart=>exact⟨1,0,oz,oz,oz,rfl,rfl,rfl,0,rfl⟩
 obtain⟨n,k,hk,y,U,A,rfl,rfl,m,rfl⟩:=hrel;by_cases f:k<l.length
 .have C:=O.out k f;have Y:l.getD k 0<=9223372036854775807:=R.out _ (plain.Zcc 0 f);have I:=@Zeo l k n f;have J:=@Zcx l k n f;have L:=@Zcw l k n f;have g:=Lib.hid I;have j:=Lib.hid J;have q:=Lib.hid L;clear I J L;generalize l.getD k 0=x at *;by_cases X:x<1
  .have E:=Lib.hid (g.out X A.out);clear g j q;go_wp2;go_ret2;exact⟨by rw[E.out];rfl,m,rfl⟩
  have z:1<=x:=oz;have g1:=Kw (x:=x) y;have g2:=qu (x:=x) y;have q1:=xp (x:=x) y;have q2:=KR (x:=x) y;have Z:=U4 q1 z;by_cases M:9223372036854775807<n/XI n x*x
  .have E:=Lib.hid (j.out z M A.out);clear g j q;go_wp2_with (first|(go_at_call 211;refine(gI _ _ _ oz oz oz oz).mono ?_;rintro e w' ⟨rfl,H,rfl⟩)|(go_at_call 210;refine(Zf2 _ _ _ oz oz oz oz oz oz oz).mono ?_;rintro e w' ⟨rfl,H,rfl⟩));go_ret2;exact⟨by rw[E.out];rfl,_,rfl⟩
  have E:=Lib.hid (q.out z oz A.out);have G:n/XI n x*x<=9223372036854775807:=oz;clear g j q M;go_wp2_with (first|(go_at_call 211;refine(gI _ _ _ oz oz oz oz).mono ?_;rintro e w' ⟨rfl,H,rfl⟩)|(go_at_call 210;refine(Zeq _ _ _ oz oz oz oz oz oz oz oz).mono ?_;rintro e w' ⟨rfl,H,rfl⟩));go_roundw
  case rel=>exact⟨_,k+1,oz,Z,G,E.out,rfl,by go_num,_,rfl⟩
  simp[intOf];omega
 have E:=Lib.hid (Zcv oz A.out);have D:k=l.length:=oz;subst D;go_wp2;go_ret2;exact⟨by rw[E.out];rfl,m,rfl⟩
theorem EL{a g:Int}{n m:Nat}(f:a=n)(j:g=m)(h:m ∣ n):a%g=0:=by
 subst f j;exact Int.emod_eq_zero_of_dvd (Int.ofNat_dvd.2 h)
theorem uj(ha:1<=a):a%XI a b=0 :=
 EL (show a=((a.toNat:Nat):Int) by omega) rfl (Nat.gcd_dvd_left _ _)
theorem qv(hb:1<=b):b%XI a b=0 :=
 EL (show b=((b.toNat:Nat):Int) by omega) rfl (Nat.gcd_dvd_right _ _)
theorem Ex(x:Int):XI 1 x=1:=by unfold XI;rw[show(1:Int).toNat=1 from rfl,Nat.gcd_one_left];rfl
theorem ZbU(f:1<=c)(v:1<=x):c ∣ c/XI c x*x/\x ∣ c/XI c x*x:=by
 refine⟨?_,⟨c/XI c x,Int.mul_comm _ _⟩⟩;have m:XI c x ∣ c:=Int.dvd_of_emod_eq_zero (uj f);have q:XI c x ∣ x:=Int.dvd_of_emod_eq_zero (qv v);have z:=Kw (x:=x) f;generalize XI c x=g at *;obtain⟨j,rfl⟩:=m;obtain⟨y,rfl⟩:=q;rw[Int.mul_ediv_cancel_left _ oz];exact⟨y,by rw[<-Int.mul_assoc,Int.mul_comm j g]⟩
end Go.Proofs.YtdgifkjaflfdeaaGreatDoor.arith
namespace Go.Proofs.YtdgifkjaflfdeaaGreatDoor.clock
open Tryz
open Go.RowKit
variable {h p:Int}{l:List (Int × Int)}{k:Nat}
def VH(h p:Int):Int:=h/arith.XI h p*p
def YQ:Int->List (Int × Int)->Option Int
 | h,[]=>some h
 | h,c::l=>if 2000<VH h c.1 then none else YQ (VH h c.1) l
theorem gO(f:1<=h)(m:h<=2000)(g:1<=p)(p2:p<=2000):1<=VH h p/\VH h p<=4000000:=by
 have j:=arith.xp (x:=p) f;have q:=arith.KR (x:=p) f;refine⟨arith.U4 j g,?_⟩;have:h/arith.XI h p*p<=2000*2000:=Int.mul_le_mul oz p2 oz oz;unfold VH;omega
theorem qM(f:1<=h)(g:h<=2000)(j:1<=p)(p2:p<=2000):arith.YX 1 [h,p]=some (VH h p):=by
 have b:=gO f g j p2;rw[arith.YX,Yv oz,arith.Ex,show(1:Int)/1*h=h by omega,Yv oz,arith.YX,Yv oz];unfold VH at b ⊢;rw[Yv oz,arith.YX]
theorem Zcn(w:World)(a b:Int):arith.Zbo (w.alloc (Obj.cells #[.int .i64 a,.int .i64 b] 2)) (.slice (some ⟨w.1.size,0,none⟩) 2 2) [a,b]:=by
 refine .inr ⟨w.1.size,0,2,rfl,?_⟩;intro k f
 match k,f with
 | 0,_=>simp[go_sem]
 | 1,_=>simp[go_sem]
theorem Zcu(h p:Int)(w:World)(B:Nat)(j:B=w.1.size)(f:1<=h)(g:h<=2000)(q:1<=p)(p2:p<=2000) :
  Calls prog 171 #[.slice (some ⟨B,0,none⟩) 2 2] (w.alloc (Obj.cells #[.int .i64 h,.int .i64 p] 2)) fun e w' =>
   e=.returned (.tuple #[.int .i64 (VH h p),.bool true])/\∃m,w'=(w.alloc (Obj.cells #[.int .i64 h,.int .i64 p] 2)).drewN m:=by
 subst j;have:=arith.Zen [h,p] _ _ (Zcn w h p) (by simp) (by simp;omega);rw[qM f g q p2] at this;exact this
def E3(c:Int × Int):Prop:=1<=c.1/\c.1<=2000/\0<=c.2/\c.2<=2000
def UZ:Option Int->Value
 | none=>.tuple #[.int .i64 0,.int .i64 8]
 | some h=>.tuple #[.int .i64 h,.int .i64 0]
theorem Ez(h:k<l.length):l.drop k=l.getD k (0,0)::l.drop (k+1):=by
 rw[List.drop_eq_getElem_cons h,plain.getD_lt _ h]
theorem uo{l:List (Int × Int)}{k:Nat}{h:Int}{X:Option Int}(f:k<l.length)(g:2000<VH h (l.getD k (0,0)).1)(H:YQ h (l.drop k)=X):X=none:=by
 rw[Ez f,YQ,Yw g] at H;exact H.symm
theorem un{l:List (Int × Int)}{k:Nat}{h:Int}{X:Option Int}(f:k<l.length)(g:¬2000<VH h (l.getD k (0,0)).1)(H:YQ h (l.drop k)=X):YQ (VH h (l.getD k (0,0)).1) (l.drop (k+1))=X:=by
 rw[Ez f,YQ,Yv g] at H;exact H
theorem uk{X:Option Int}(f:l.length<=k)(H:YQ h (l.drop k)=X):X=some h:=by
 rw[List.drop_eq_nil_of_le f,YQ] at H;exact H.symm
theorem um(l:List (Int × Int))(b off cap:Nat)(w:World)(hl:l.length<=9223372036854775807)(G:b<w.1.size)
  (g:∀k,k<l.length->w.cell? ⟨b,off+k*2,none⟩=some (.int .i64 (l.getD k (0,0)).1)/\w.cell? ⟨b,off+k*2+1,none⟩=some (.int .i64 (l.getD k (0,0)).2))
  (j:∀k,k<l.length->E3 (l.getD k (0,0))) :
  Calls prog 100 #[.slice (some ⟨b,off,none⟩) l.length cap] w fun e w'=>e=.returned (UZ (YQ 1 l))/\Below w.1.size w w':=by
 have R:=Lib.hid g;have T:=Lib.hid j;clear g j;go_enter func100,ntmps100;go_wp2;go_loopw [13] (fun i wr=>∃k:Nat,k<=l.length/\i=.int .i64 k/\Hid (Below w.1.size w wr)) (fun i _=>l.length-(intOf i).toNat)
 case atStart=>exact⟨0,oz,rfl,Below.refl _ _⟩
 obtain⟨k,hk,rfl,C⟩:=hrel;by_cases f:k<l.length
 .have L:=R.out k f;obtain⟨D,F⟩:=L;rw[<-C.out.cell (p:=⟨b,_,none⟩) G] at D F;have q:=T.out k f;unfold E3 at q;generalize l.getD k (0,0)=c at *;obtain⟨A,X⟩:=c;simp only at D F q;have H:=Lib.hid (fun w=>Xj A X w q);clear q;go_wp2_with (go_at_call 41;(with_reducible refine(H.out _).mono ?_);rintro e w1 ⟨rfl,hb1⟩;have HB1:=Lib.hid hb1;clear hb1);go_roundw
  case rel=>exact⟨k+1,oz,by go_num,(C.out.alloc C.out.size _).trans (HB1.out.mono (by simp;have:=C.out.size;omega))⟩
  simp[intOf];omega
 have z:k=l.length:=oz;subst z;go_wp2;obtain⟨wo,rfl⟩:∃wo:World,wo=wr:=⟨_,rfl⟩;go_loopw [6,23] (fun h i wr=>∃(k:Nat)(n:Int),k<=l.length/\1<=n/\n<=2000/\h=.int .i64 n/\i=.int .i64 k/\Hid (YQ n (l.drop k)=YQ 1 l)/\Hid (Below w.1.size w wr)) (fun _ i _=>l.length-(intOf i).toNat)
 case atStart=>exact⟨0,1,oz,oz,oz,rfl,rfl,rfl,C⟩
 obtain⟨k,n,hk,Y,Z,rfl,rfl,I,y⟩:=hrel;by_cases f:k<l.length
 .have L:=R.out k f;obtain⟨D,F⟩:=L;rw[<-y.out.cell (p:=⟨b,_,none⟩) G] at D F;have q:=T.out k f;unfold E3 at q;have U:=@uo l k n (YQ 1 l) f;have V:=@un l k n (YQ 1 l) f;have v:=Lib.hid U;have x:=Lib.hid V;clear U V;generalize l.getD k (0,0)=c at *;obtain⟨A,X⟩:=c;simp only at D F q v x;have p1:=q.1;have p2:=q.2.1;clear q;have J:=gO Y Z p1 p2;have b1:=J.1;have b2:=J.2;clear J;have H:=Lib.hid (fun w B hB=>Zcu n A w B hB Y Z p1 p2);by_cases M:2000<VH n A
  .have E:=Lib.hid (v.out M I.out);clear v x;go_wp2_with (go_at_call 171;(with_reducible refine(H.out _ _ (by simp)).mono ?_);rintro e w1 ⟨rfl,m,rfl⟩);go_ret2;exact⟨by rw[E.out];rfl,arith.below_drewN ((y.out.alloc y.out.size _).alloc (by simp;have:=y.out.size;omega) _) _⟩
  have E:=Lib.hid (x.out M I.out);clear v x;have O:VH n A<=2000:=oz;clear M;go_wp2_with (go_at_call 171;(with_reducible refine(H.out _ _ (by simp)).mono ?_);rintro e w1 ⟨rfl,m,rfl⟩);go_roundw
  case rel=>exact⟨k+1,VH n A,oz,b1,O,rfl,by go_num,E,arith.below_drewN ((y.out.alloc y.out.size _).alloc (by simp;have:=y.out.size;omega) _) _⟩
  simp[intOf];omega
 have E:=Lib.hid (uk oz I.out);have z:k=l.length:=oz;subst z;go_wp2;go_ret2;exact⟨by rw[E.out];rfl,y.out⟩
