/- Parts of the proof. -/
import Derived.BigRegionIn
import Derived.LoopIn
import Derived.LoopNIn
import Derived.OwnWalkIn
import Derived.RangeFuncBound
import Derived.RangeFuncNested
import Derived.Shelf.Abstract
import Derived.TacticsInMore
import Derived.Test.YtdgifkjaflfdeaaGreatDoorX01
set_option linter.all false
set_option maxRecDepth 100000
set_option maxHeartbeats 16000000
namespace Go.Proofs.YtdgifkjaflfdeaaGreatDoor.syn
open Tryz
open Go.RowKit
variable {F:Fence}{W:World}{n₀:Nat}
theorem ZaN(hd:F.depth=none)(k:Nat):F.room k:=fun d h=>by rw[hd] at h;cases h
theorem YieldAt.deep(hd:F.depth=none){m:Nat}(q:Nat){P:Program}{l:Nat}{args:Array Value}{R:Ending->World->Prop}(h:YieldAt F m P l args W R):YieldAt F q P l args W R:=by
 obtain⟨j,f,assign,body,hy,g⟩:=h;exact⟨j,f,assign,body,hy,⟨g.1,fun c cs _=>g.2 c cs (ZaN hd _)⟩⟩
structure KC (n₀:Nat) (W W':World):Prop where
 below:Below n₀ W W'
 same:∀(k:Nat)(o:Obj),W.1[k]?=some o->o.isCells=true->W'.1[k]?=some o
theorem KC.refl(n₀:Nat)(W:World):KC n₀ W W:=⟨Below.refl _ _,fun _ _ h _=>h⟩
theorem KC.trans{n₀:Nat}{A B C:World}(h:KC n₀ A B)(k:KC n₀ B C):KC n₀ A C:=⟨h.below.trans k.below,fun i o hi ho=>k.same i o (h.same i o hi ho) ho⟩
theorem KC.alloc{n₀:Nat}{A W:World}(h:KC n₀ A W)(hn:n₀<=W.1.size)(o:Obj):KC n₀ A (W.alloc o) :=
 h.trans ⟨(Below.refl _ _).alloc hn _,fun k x hk _=>(Below.heap_alloc W o k (Array.getElem?_eq_some_iff.1 hk).1).trans hk⟩
theorem KC.putObj(W:World)(l:Nat)(o o':Obj)(hl:n₀<=l)(h:W.1[l]?=some o)(hc:o.isCells=false):KC n₀ W (W.putObj l o') :=
 ⟨⟨rfl,rfl,rfl,by simp,fun k hk=>World.putObj_heap_other (fun e=>oz)⟩,fun k x hk hx=>(World.putObj_heap_other (fun e=>by subst e;rw[h] at hk;injection hk with hk;subst hk;rw[hc] at hx;cases hx)).trans hk⟩
theorem KC.of_below{A W W':World}(h:KC n₀ A W)(hb:Below W.1.size W W')(hn:n₀<=W.1.size):KC n₀ A W' :=
 h.trans ⟨hb.mono hn,fun k o hk _=>(hb.block k (lt_of_block hk)).trans hk⟩
theorem JE{β:Type}{B:Nat}{J:β->World->Prop}(h:AbidesFrom B J){s:β}(hs:J s W)(o:Obj):J s (W.alloc o) :=
 h s W _ none hs (World.grownBy_alloc W o none) (fun r e=>by cases e)
end Go.Proofs.YtdgifkjaflfdeaaGreatDoor.syn
namespace Go.Proofs.YtdgifkjaflfdeaaGreatDoor.lite
open Tryz
open Go.RowKit
variable {B:Nat}{a w:World}
theorem YZ(h:Below B a w){b o:Nat}(hp:B<=b)(u:Value):Below B a (w.setCell ⟨b,o,none⟩ u):=h.setCell (p:=⟨b,o,none⟩) hp u
theorem below_drewN(h:Below B a w)(n:Nat):Below B a (w.drewN n):=⟨h.os,h.tape,h.output,h.size,h.block⟩
theorem YE{W w1:World}(hb:Below W.1.size W w1):(∀b o,b<W.1.size->w1.cell? ⟨b,o,none⟩=W.cell? ⟨b,o,none⟩)/\(∀b o,b<W.1.size->w1.frozen? ⟨b,o,none⟩=W.frozen? ⟨b,o,none⟩) :=
 ⟨fun b o h=>hb.cell (p:=⟨b,o,none⟩) h,fun b o h=>hb.frozen (p:=⟨b,o,none⟩) h⟩
theorem Yx(w:World)(o:Obj):(w.alloc o).1[w.1.size]?=some o:=by
 show(w.1.push o)[w.1.size]?=_;simp
end Go.Proofs.YtdgifkjaflfdeaaGreatDoor.lite
namespace Go.Proofs.YtdgifkjaflfdeaaGreatDoor.index
open Tryz
open Go.RowKit clock
variable {B n₀ Bs:Nat}{w W W0:World}{t:TypeId}
abbrev Op3:=Int × Int × Int
def Xr(o:Op3):Bool:=if o.1=3\/o.1=4 then decide (o.2.1<1) else decide (o.1<3\/8<o.1)
def XX(o:Op3):Bool:=decide (o.1=6\/o.1=8)
def Xa(o:Op3):Bool:=decide (o.1=6\/(o.1=5/\¬o.2.1=0))
theorem Zbj(k n d:Int)(w:World) :
  Calls prog 151 #[.agg #[.int .i64 k,.int .i64 n,.int .i64 d]] w fun e w'=>e=.returned (.bool (Xr (k,n,d)))/\Below w.1.size w w':=by
 by_cases f:k=3\/k=4
 .rcases f with rfl|rfl
  all_goals
   go_enter func151,ntmps151;go_wp2;go_ret;exact⟨X9 (by simp[Xr]),UO _⟩
 have m:(k == 3)=false:=Yt.2 oz;have q:(k == 4)=false:=Yt.2 oz;have E:Hid (Xr (k,n,d)=decide (k<3\/8<k)):=by unfold Xr;exact Yv f
 clear f;by_cases g:k<3
 .go_enter func151,ntmps151;go_wp2;go_ret;exact⟨X9 (by rw[E.out];simp;omega),UO _⟩
 have j:decide (k<3)=false:=Yu g;go_enter func151,ntmps151;go_wp2;go_ret;exact⟨X9 (by rw[E.out];simp;omega),UO _⟩
theorem vF(k n d:Int)(w:World) :
  Calls prog 153 #[.agg #[.int .i64 k,.int .i64 n,.int .i64 d]] w fun e w'=>e=.returned (.bool (XX (k,n,d)))/\Below w.1.size w w':=by
 by_cases f:k=6
 .subst f;go_enter func153,ntmps153;go_wp2;go_ret;exact⟨X9 (by simp[XX]),UO _⟩
 have g:(k == 6)=false:=Yt.2 f;have E:Hid (XX (k,n,d)=(k == 8)):=by unfold XX;show _=_;cases h:(k == 8)<;>simp_all
 clear f;go_enter func153,ntmps153;go_wp2;go_ret;exact⟨X9 (by rw[E.out]),UO _⟩
theorem vV(k n d:Int)(w:World) :
  Calls prog 241 #[.agg #[.int .i64 k,.int .i64 n,.int .i64 d]] w fun e w'=>e=.returned (.bool (Xa (k,n,d)))/\Below w.1.size w w':=by
 by_cases f:k=6
 .subst f;go_enter func241,ntmps241;go_wp2;go_ret;exact⟨X9 (by simp[Xa]),UO _⟩
 have m:(k == 6)=false:=Yt.2 f;by_cases g:k=5
 .subst g;have E:Hid (Xa (5,n,d)=(n != 0)):=by unfold Xa;show _=_;simp;cases h:(n != 0)<;>simp_all
  clear f;go_enter func241,ntmps241;go_wp2;go_ret;exact⟨X9 (by rw[E.out]),UO _⟩
 have j:(k == 5)=false:=Yt.2 g;have E:Hid (Xa (k,n,d)=false):=by unfold Xa;show _=_;simp[f,g]
 clear f g;go_enter func241,ntmps241;go_wp2;go_ret;exact⟨X9 (by rw[E.out]),UO _⟩
def X7(o:Op3)(n:Int):Option Int :=
 if o.1=3 then some (n/o.2.1)
 else if o.1=4 then (if n*o.2.1<=1099511627776 then some (n*o.2.1) else none)
 else if o.1=6\/o.1=8 then some (n-1)
 else if o.1=7 then (if n<1099511627776 then some (n+1) else none)
 else some n
def Zfp(x:Option Int)(e:Ending):Prop:=match x with
 | some t=>e=.returned (.tuple #[.int .i64 t,.bool true])
 | none=>∃t,e=.returned (.tuple #[.int .i64 t,.bool false])
theorem KR{n N:Int}(f:0<=n)(m:1<=N):0<=n/N/\n/N<=n:=by
 have g:=Int.ediv_nonneg f (show 0<=N by omega);have j:=Int.ediv_le_self N f;exact⟨g,j⟩
theorem bZ020{p:Prop}(h:p:=by repeat (first|(with_reducible exact Below.refl _ _)|((with_reducible refine YZ ?_ ?_ _);(rotate_left;focus (first|omega|(simp;done)|(simp;omega))))|((with_reducible refine Below.alloc ?_ ?_ _);(rotate_left;focus (first|omega|(simp;done)|(simp;omega))))|(with_reducible refine below_drewN ?_ _)|(with_reducible refine Below.drew ?_))):p:=h
theorem Ej(k N d n:Int)(w:World)(j:Xr (k,N,d)=false)(y:0<=n)(J:n<=1099511627776)(hb:¬(n=0/\XX (k,N,d)=true)) :
  Calls prog 154 #[.agg #[.int .i64 k,.int .i64 N,.int .i64 d],.int .i64 n] w fun e w'=>Zfp (X7 (k,N,d) n) e/\Below w.1.size w w':=by
 by_cases q:k=3
 .subst q;have z:1<=N:=by simp[Xr] at j;omega
  have D:=KR y z;have G:IntKind.i64.wrap (n.tdiv N)=n/N:=by rw[Int.tdiv_eq_ediv_of_nonneg y,IntWalk.i64_in _ oz]
  have H:(N == 0)=false:=Yt.2 oz;have I:¬N=0:=oz;have E:Hid (X7 (3,N,d) n=some (n/N)):=rfl;clear j hb D;go_enter func154,ntmps154;go_wp2;go_ret2;exact⟨by rw[E.out];rfl,bZ020⟩
 have F:(k == 3)=false:=Yt.2 q;by_cases v:k=4
 .subst v;have z:1<=N:=by simp[Xr] at j;omega
  have D:=KR (n:=1099511627776) oz z;have G:IntKind.i64.wrap ((1099511627776:Int).tdiv N)=1099511627776/N:=by rw[Int.tdiv_eq_ediv_of_nonneg oz,IntWalk.i64_in _ oz]
  have H:(N == 0)=false:=Yt.2 oz;have I:¬N=0:=oz;by_cases g:n*N<=1099511627776
  .have m:n<=1099511627776/N:=(Int.le_ediv_iff_mul_le oz).2 g;have A:=Int.mul_nonneg y (show 0<=N by omega);have U:IntKind.i64.wrap (n*N)=n*N:=IntWalk.i64_in _ oz;have E:Hid (X7 (4,N,d) n=some (n*N)):=by unfold X7;show _=_;simp[g]
   clear j hb g A F;go_enter func154,ntmps154;go_wp2;go_quiet (fail);go_wp2;go_ret2;exact⟨by rw[E.out];rfl,arith.below_drewN (UO _) _⟩
  have m:¬n<=1099511627776/N:=fun h=>g ((Int.le_ediv_iff_mul_le oz).1 h)
  have C:1099511627776/N<n:=oz;have f1:decide (n<=1099511627776/N)=false:=Yu m;have E:Hid (X7 (4,N,d) n=none):=by unfold X7;show _=_;simp[g]
  clear j hb g m F;go_enter func154,ntmps154;go_wp2;go_quiet (fail);go_wp2;go_ret2;exact⟨by rw[E.out];exact⟨_,rfl⟩,arith.below_drewN (UO _) _⟩
 have M:(k == 4)=false:=Yt.2 v;by_cases f:k=6\/k=8
 .have L:1<=n:=by
   have:XX (k,N,d)=true:=by simp[XX,f]
   have:¬n=0:=fun h=>hb ⟨h,this⟩
   omega
  have E:Hid (X7 (k,N,d) n=some (n-1)):=by unfold X7;show _=_;simp[q,v,f]
  clear j hb q v;rcases f with rfl|rfl
  all_goals
   go_enter func154,ntmps154;go_wp2;go_ret2;exact⟨by rw[E.out];rfl,bZ020⟩
 have O:(k == 6)=false:=Yt.2 oz;have T:(k == 8)=false:=Yt.2 oz;by_cases x:k=7
 .subst x;by_cases g:n<1099511627776
  .have E:Hid (X7 (7,N,d) n=some (n+1)):=by unfold X7;show _=_;simp[g]
   clear j hb;go_enter func154,ntmps154;go_wp2;go_ret2;exact⟨by rw[E.out];rfl,bZ020⟩
  have E:Hid (X7 (7,N,d) n=none):=by unfold X7;show _=_;simp[g]
  clear j hb;go_enter func154,ntmps154;go_wp2;go_ret2;exact⟨by rw[E.out];exact⟨_,rfl⟩,bZ020⟩
 have R:(k == 7)=false:=Yt.2 x;have E:Hid (X7 (k,N,d) n=some n):=by unfold X7;show _=_;simp[q,v,f,x]
 clear j hb q v f x;go_enter func154,ntmps154;go_wp2;go_ret2;exact⟨by rw[E.out];rfl,bZ020⟩
def OpA(w:World)(a:Option Addr)(l:List Op3):Prop:=∀k,k<l.length->∃b off,a=some ⟨b,off,none⟩/\b<w.1.size /\
 w.cell? ⟨b,off+k*3,none⟩=some (.int .i64 (l.getD k (0,0,0)).1)/\w.cell? ⟨b,off+k*3+1,none⟩=some (.int .i64 (l.getD k (0,0,0)).2.1)/\w.cell? ⟨b,off+k*3+2,none⟩=some (.int .i64 (l.getD k (0,0,0)).2.2)
theorem OpA.below{w g:World}{a:Option Addr}{l:List Op3}(h:OpA w a l)(hb:Below B w g)(y:w.1.size<=B):OpA g a l:=by
 intro k x;obtain⟨b,off,rfl,j,m,q,v⟩:=h k x;have f:b<B:=oz;exact⟨b,off,rfl,Ys j hb.size,(hb.cell (p:=⟨b,_,none⟩) f).trans m,(hb.cell (p:=⟨b,_,none⟩) f).trans q,(hb.cell (p:=⟨b,_,none⟩) f).trans v⟩
theorem xY{P:Op3->Bool}{l:List Op3}{k:Nat}(f:k<l.length)(h:(l.take k).any P=false)(g:P (l.getD k (0,0,0))=false):(l.take (k+1)).any P=false:=by
 rw[List.take_succ_eq_append_getElem f,List.any_append,h,<-plain.getD_lt (0,0,0) f];simp only[List.any_cons,List.any_nil,g,Bool.or_false]
theorem kV{P:Op3->Bool}{l:List Op3}{k:Nat}(g:k<l.length)(f:P (l.getD k (0,0,0))=true):l.any P=true:=by
 rw[List.any_eq_true];rw[plain.getD_lt _ g] at f;exact⟨_,List.getElem_mem g,f⟩
theorem Gv
  (l:List Op3)(a:Option Addr)(cap:Nat)(w:World)(G:l.length<=9223372036854775807)(z:OpA w a l) :
  Calls prog 200 #[.slice a l.length cap,.func (.func 151) #[] #[]] w fun e w'=>(∃i:Int,e=.returned (.int .i64 i)/\l.any Xr=decide (0<=i))/\Below w.1.size w w':=by
 have C:=Lib.hid Zbj;have A:=Lib.hid z;clear z;go_enter func200,ntmps200;go_wp2;go_loopw [8] (fun i wr=>∃(k:Nat),k<=l.length/\i=.int .i64 k/\Hid (Below w.1.size w wr/\(l.take k).any Xr=false)) (fun i _=>l.length-(intOf i).toNat)
 case atStart=>exact⟨0,oz,rfl,Below.refl _ _,by simp⟩
 obtain⟨k,F,rfl,hrel⟩:=hrel;have f:=hrel;clear hrel;by_cases g:k<l.length
 .obtain⟨b,off,rfl,hb,c0,c1,c2⟩:=(A.out.below f.out.1 (Yr _)) k g;have j:=Lib.hid (C.out (l.getD k (0,0,0)).1 (l.getD k (0,0,0)).2.1 (l.getD k (0,0,0)).2.2);have m:((l.getD k (0,0,0)).1,(l.getD k (0,0,0)).2.1,(l.getD k (0,0,0)).2.2)=l.getD k (0,0,0):=rfl;rw[m] at j;obtain⟨x,v⟩:∃x,l.getD k (0,0,0)=x:=⟨_,rfl⟩;have y:=Lib.hid v;rw[v] at c0 c1 c2 j;clear v m
  cases hpx:Xr x with
  | true =>
   rw[hpx] at j;go_wp2_with (go_at_call 151;(with_reducible refine(j.out _).mono ?_);rintro e D ⟨rfl,hb1⟩;have HB1:=Lib.hid hb1;clear hb1);go_ret;exact⟨⟨_,rfl,by rw[kV g (by rw[y.out,hpx])];simp⟩,f.out.1.trans (HB1.out.mono f.out.1.size)⟩
  | false =>
   rw[hpx] at j;go_wp2_with (go_at_call 151;(with_reducible refine(j.out _).mono ?_);rintro e D ⟨rfl,hb1⟩;have HB1:=Lib.hid hb1;clear hb1);go_roundw
   case rel=>exact⟨k+1,oz,by go_num,f.out.1.trans (HB1.out.mono f.out.1.size),xY (P:=_) g f.out.2 (by rw[y.out,hpx])⟩
   simp[intOf];omega
 have q:k=l.length:=oz;subst q;have E:Hid (l.any Xr=false):=by have:=f.out.2;rw[List.take_length] at this;exact this
 go_wp2;go_ret;exact⟨⟨_,rfl,by rw[E.out];decide⟩,f.out.1⟩
theorem Jp
  (l:List Op3)(a:Option Addr)(cap:Nat)(w:World)(m:l.length<=9223372036854775807)(f:OpA w a l) :
  Calls prog 150 #[.slice a l.length cap,.func (.func 151) #[] #[]] w fun e w'=>e=.returned (.bool (l.any Xr))/\Below w.1.size w w':=by
 have g:=Lib.hid (Gv l a cap w m f);clear f;go_enter func150,ntmps150;go_wp2_with (go_at_call 200;(with_reducible refine g.out.mono ?_);rintro e q ⟨⟨i,rfl,hi⟩,hb1⟩;have j:=Lib.hid hi;have HB1:=Lib.hid hb1;clear hi hb1);go_ret;exact⟨X9 (by rw[j.out]),HB1.out⟩
theorem KE
  (l:List Op3)(a:Option Addr)(cap:Nat)(w:World)(G:l.length<=9223372036854775807)(z:OpA w a l) :
  Calls prog 200 #[.slice a l.length cap,.func (.func 241) #[] #[]] w fun e w'=>(∃i:Int,e=.returned (.int .i64 i)/\l.any Xa=decide (0<=i))/\Below w.1.size w w':=by
 have C:=Lib.hid vV;have A:=Lib.hid z;clear z;go_enter func200,ntmps200;go_wp2;go_loopw [8] (fun i wr=>∃(k:Nat),k<=l.length/\i=.int .i64 k/\Hid (Below w.1.size w wr/\(l.take k).any Xa=false)) (fun i _=>l.length-(intOf i).toNat)
 case atStart=>exact⟨0,oz,rfl,Below.refl _ _,by simp⟩
 obtain⟨k,F,rfl,hrel⟩:=hrel;have f:=hrel;clear hrel;by_cases g:k<l.length
 .obtain⟨b,off,rfl,hb,c0,c1,c2⟩:=(A.out.below f.out.1 (Yr _)) k g;have j:=Lib.hid (C.out (l.getD k (0,0,0)).1 (l.getD k (0,0,0)).2.1 (l.getD k (0,0,0)).2.2);have m:((l.getD k (0,0,0)).1,(l.getD k (0,0,0)).2.1,(l.getD k (0,0,0)).2.2)=l.getD k (0,0,0):=rfl;rw[m] at j;obtain⟨x,v⟩:∃x,l.getD k (0,0,0)=x:=⟨_,rfl⟩;have y:=Lib.hid v;rw[v] at c0 c1 c2 j;clear v m
  cases hpx:Xa x with
  | true =>
   rw[hpx] at j;go_wp2_with (go_at_call 241;(with_reducible refine(j.out _).mono ?_);rintro e D ⟨rfl,hb1⟩;have HB1:=Lib.hid hb1;clear hb1);go_ret;exact⟨⟨_,rfl,by rw[kV g (by rw[y.out,hpx])];simp⟩,f.out.1.trans (HB1.out.mono f.out.1.size)⟩
  | false =>
   rw[hpx] at j;go_wp2_with (go_at_call 241;(with_reducible refine(j.out _).mono ?_);rintro e D ⟨rfl,hb1⟩;have HB1:=Lib.hid hb1;clear hb1);go_roundw
   case rel=>exact⟨k+1,oz,by go_num,f.out.1.trans (HB1.out.mono f.out.1.size),xY (P:=_) g f.out.2 (by rw[y.out,hpx])⟩
   simp[intOf];omega
 have q:k=l.length:=oz;subst q;have E:Hid (l.any Xa=false):=by have:=f.out.2;rw[List.take_length] at this;exact this
 go_wp2;go_ret;exact⟨⟨_,rfl,by rw[E.out];decide⟩,f.out.1⟩
theorem Ua
  (l:List Op3)(a:Option Addr)(cap:Nat)(w:World)(m:l.length<=9223372036854775807)(f:OpA w a l) :
  Calls prog 150 #[.slice a l.length cap,.func (.func 241) #[] #[]] w fun e w'=>e=.returned (.bool (l.any Xa))/\Below w.1.size w w':=by
 have g:=Lib.hid (KE l a cap w m f);clear f;go_enter func150,ntmps150;go_wp2_with (go_at_call 200;(with_reducible refine g.out.mono ?_);rintro e q ⟨⟨i,rfl,hi⟩,hb1⟩;have j:=Lib.hid hi;have HB1:=Lib.hid hb1;clear hi hb1);go_ret;exact⟨X9 (by rw[j.out]),HB1.out⟩
theorem KI(l:List Op3)(a:Option Addr)(cap:Nat)(w:World)(j:l.length<=9223372036854775807)(f:OpA w a l) :
  Calls prog 213 #[.slice a l.length cap] w fun e w'=>e=.returned (.bool (l.any Xa))/\Below w.1.size w w':=by
 have g:=Lib.hid (Ua l a cap w j f);clear f;go_enter func213,ntmps213;go_wp2_with (go_at_call 150;(with_reducible refine g.out.mono ?_);rintro e m ⟨rfl,hb1⟩;have HB1:=Lib.hid hb1;clear hb1);go_ret;exact⟨rfl,HB1.out⟩
open Go.RowKit Go.Shelf clock syn
attribute [local go_sem] Oper.semAt_some
structure KB (n₀ Bs:Nat) (W W':World):Prop where
 below:Below n₀ W W'
 box:∀(o:Obj),W.1[Bs]?=some o->o.isCells=true->W'.1[Bs]?=some o
theorem KB.refl(n₀ Bs:Nat)(W:World):KB n₀ Bs W W:=⟨Below.refl _ _,fun _ h _=>h⟩
theorem KB.trans{n₀ Bs:Nat}{A B C:World}(h:KB n₀ Bs A B)(k:KB n₀ Bs B C):KB n₀ Bs A C:=⟨h.below.trans k.below,fun o ho hc=>k.box o (h.box o ho hc) hc⟩
theorem KB.alloc{n₀ Bs:Nat}{A W:World}(h:KB n₀ Bs A W)(hn:n₀<=W.1.size)(o:Obj):KB n₀ Bs A (W.alloc o) :=
 h.trans ⟨(Below.refl _ _).alloc hn _,fun x hk _=>(Below.heap_alloc W o Bs (Array.getElem?_eq_some_iff.1 hk).1).trans hk⟩
theorem KB.putObj(W:World)(l:Nat)(o o':Obj)(hl:n₀<=l)(h:W.1[l]?=some o)(hc:o.isCells=false):KB n₀ Bs W (W.putObj l o') :=
 ⟨⟨rfl,rfl,rfl,by simp,fun k hk=>World.putObj_heap_other (fun e=>oz)⟩,fun x hk hx=>(World.putObj_heap_other (fun e=>by subst e;rw[h] at hk;injection hk with hk;subst hk;rw[hc] at hx;cases hx)).trans hk⟩
theorem KB.of_below{A W W':World}(h:KB n₀ Bs A W)(hb:Below W.1.size W W')(hn:n₀<=W.1.size):KB n₀ Bs A W' :=
 h.trans ⟨hb.mono hn,fun o hk _=>(hb.block Bs (lt_of_block hk)).trans hk⟩
theorem KB.setCell{n₀ Bs:Nat}{A W:World}(h:KB n₀ Bs A W){b:Nat}(hn:n₀<=b)(hne:Bs≠b)(v:Value):KB n₀ Bs A (W.setCell ⟨b,0,none⟩ v) :=
 h.trans ⟨(Below.refl _ _).setCell (p:=⟨b,0,none⟩) hn v,fun o hk _=>((grownBy_setCell' W b v).block Bs (lt_of_block hk) (by simp;exact hne)).trans hk⟩
structure BX (l:List Op3) where
 i:Int
 k:Int
 n:Int
 d:Int
 mem:(k,n,d)∈l
def BX.o{l:List Op3}(x:BX l):Op3:=(x.k,x.n,x.d)
def BX.vs{l:List Op3}(x:BX l):Array Value:=#[.int .i64 x.i,.agg #[.int .i64 x.k,.int .i64 x.n,.int .i64 x.d]]
def ZgA(n₀ Bs:Nat)(l:List Op3)(J:List (BX l)->World->Prop)(W:World)(v:Value)(wr:World):Prop :=
 ∃(k:Nat)(ys:List (BX l)),v=.int .i64 ((k:Int)-1)/\k<=l.length/\ys.map (·.o)++(l.take k).reverse=l.reverse/\J ys wr/\KB n₀ Bs W wr
theorem Zdx{l:List Op3}{j:Nat}(h:j<l.length):(l.take (j+1)).reverse=l.getD j (0,0,0)::(l.take j).reverse:=by
 rw[List.take_succ_eq_append_getElem h,List.reverse_append,<-plain.getD_lt (0,0,0) h];rfl
theorem yJ(F:Fence)(hd:F.depth=none)(hG:F.fn 201)(ae:F.round=none)(n l B Bs:Nat)(f:List Op3)(a:Option Addr)(cap:Nat)
  (af:f.length<=9223372036854775807)(hA:OpA W0 a f)(J Jx:List (BX f)->World->Prop)(hJ:AbidesFrom B J)
  (hY:∀m pre x W,J pre W->pre.length<f.length->YieldAt F m prog l x.vs W fun e W'=>(e=.returned (.bool true)/\J (pre++[x]) W'/\KB W0.1.size Bs W W')\/(e=.returned (.bool false)/\Jx (pre++[x]) W'))
  (W:World)(hB:Below W0.1.size W0 W)(E:Boxed W Bs 90 (.slice a f.length cap))(h0:J [] W) :
  CallsIn F n prog 201 #[.func (.yield l) #[] #[],.pointer (some ⟨Bs,0,none⟩)] W fun e W'=>(∃v,e=.returned v) /\
   ((∃xs:List (BX f),xs.map (·.o)=f.reverse/\J xs W')\/(∃pre:List (BX f),pre.map (·.o) <+: f.reverse/\Jx pre W')):=by
 have ak:∀k:Nat,(F.depth.isSome=true->1<=k):=fun k h=>by rw[hd] at h;cases h
 have HA:=Lib.hid hA;have HB:=Lib.hid hB;have Y:=Lib.hid h0;have V:=Lib.hid E;have M:=E.cell;have ag:=hB.size;have v0:IntKind.i64.wrap ((f.length:Int)-1)=(f.length:Int)-1:=IntWalk.i64_in _ oz;have HY:=Lib.hid hY;clear hA hB h0 E hY;refine callsIn_of_wp func201 rfl hG ?_ ae;simp only[ntmps201,List.size_toArray,List.length_cons,List.length_nil,Nat.reduceAdd,Nat.reduceSub,Array.replicate_succ,Array.replicate_zero,List.push_toArray,List.append_toArray,List.nil_append,List.cons_append];gi_wp2;clear M;gi_loopw [3] (fun v wr=>Hid (ZgA W0.1.size Bs f J W v wr)) (fun i _=>(intOf i+1).toNat)
 case atStart=>exact⟨f.length,[],by first|rfl|(rw[v0])|(go_num;rw[v0]),Yr _,by simp,Y.out,KB.refl _ _ _⟩
 obtain⟨k,R,hv,hk,g,U,y⟩:=hrel.out;clear hrel;have q:Below W0.1.size W0 wr:=HB.out.trans y.below;have HBW:=Lib.hid q;have HK:=Lib.hid y;have aa:=Lib.hid U;have ah:=q.size;have M:wr.cell? ⟨Bs,0,none⟩=some (.slice a f.length cap):=Boxed.cell (t:=90) (y.box _ V.out rfl)
 cases k with
 | zero =>
  obtain rfl:=hv;have T:((0:Nat):Int)-1=-1:=rfl;have A:=Lib.hid (show R.map (·.o)=f.reverse by simpa using g);clear q y U g
  try rw[T]
  gi_wp2;go_end0;exact⟨⟨_,rfl⟩,.inl ⟨R,A.out,aa.out⟩⟩
 | succ j =>
  have T:((j+1:Nat):Int)-1=(j:Int):=oz;rw[T] at hv;obtain rfl:=hv;clear T;have C:j<f.length:=oz;obtain⟨b,off,rfl,aj,c0,c1,c2⟩:=(HA.out.below q (Yr _)) j C;have z:f.getD j (0,0,0)∈f:=by rw[plain.getD_lt _ C];exact List.getElem_mem C
  rw[Zdx C] at g;obtain⟨o,ho⟩:∃o,f.getD j (0,0,0)=o:=⟨_,rfl⟩;rw[ho] at c0 c1 c2 g z;clear ho;obtain⟨ok,on,od⟩:=o;simp only at c0 c1 c2;have D:=congrArg List.length g;simp only[List.length_append,List.length_map,List.length_cons,List.length_reverse] at D;obtain⟨X,I,L⟩:∃X:BX f,X.vs=#[.int .i64 (j:Int),.agg #[.int .i64 ok,.int .i64 on,.int .i64 od]]/\X.o=(ok,on,od):=⟨⟨j,ok,on,od,z⟩,rfl,rfl⟩;obtain⟨fn,ai,assign,body,hy,hR⟩:=HY.out (n-1) R X wr U oz;rw[I] at hy;have HR:=Lib.hid hR;have G:=Lib.hid L;have A:=Lib.hid g;clear q y U g hR I L D z;gi_wp2;refine HR.out.mono ?_;rintro e W1 (⟨rfl,H,O⟩|⟨rfl,ac⟩)
  .have Z:=Lib.hid H;have ab:=Lib.hid (HK.out.trans O);clear H O;gi_wp2;go_roundw
   case rel=>exact⟨j,R++[X],by go_num,oz,by rw[List.map_append,<-A.out];simp[G.out],Z.out,ab.out⟩
   first|(simp[intOf];done)|(simp[intOf];omega)
  gi_wp2;refine bodyPost_ret (results_none rfl _ _ _) rfl ?_;refine⟨⟨_,rfl⟩,.inr ⟨R++[X],?_,ac⟩⟩;refine⟨(f.take j).reverse,?_⟩;rw[List.map_append,<-A.out];simp[G.out]
theorem Eh(F:Fence)(hd:F.depth=none)(hG:F.fn 201)(hro:F.round=none)(n Bs:Nat)(ops:List Op3)(a:Option Addr)(cap:Nat)
  (hlen:ops.length<=9223372036854775807)(hA:OpA W0 a ops)(w:World)(hB:Below W0.1.size W0 w)(hbx:Boxed w Bs 90 (.slice a ops.length cap)) :
  SeqStopsK F n prog 201 #[.pointer (some ⟨Bs,0,none⟩)] (fun x:BX ops=>x.vs) (KB W0.1.size Bs) (fun xs=>xs.map (·.o)=ops.reverse) (fun pre=>pre.map (·.o) <+: ops.reverse) ops.length w:=fun l J Jx W hW hJ hJx hY h0 =>
 yJ F hd hG hro n l W.1.size Bs ops a cap hlen hA J Jx hJ (fun m pre x W hj hl=>YieldAt.deep hd m (hY pre x W hj hl)) W (hB.trans (hW.mono hB.size)) ((hW.block Bs hbx.lt).trans hbx) h0
theorem yK(a:Option Addr)(n c:Nat):Calls prog 152 #[.slice a n c] w fun e w'=>e=.returned (.func (.func 201) #[] #[.pointer (some ⟨w.1.size,0,none⟩)])/\w'=w.alloc (.cells #[.slice a n c] 90):=by
 go_enter func152,ntmps152;go_wp2;go_ret;exact⟨rfl,rfl⟩
open Go.RowKit Go.Shelf clock syn lite
attribute [local go_sem] Oper.semAt_some
abbrev vr:=Int × Int × Int
def XN(o:Op3)(n:Int):Except vr Int :=
 if n=0/\XX o=true then .error (0,o.2.1,2) else match X7 o n with
  | some t=>.ok t
  | none=>.error (0,0,0)
def XJ:List Op3->Int->Except vr Int
 | [],n=>.ok n
 | o::r,n=>match XN o n with
  | .ok t=>XJ r t
  | .error e=>.error e
def ZcW:Except vr Int->vr
 | .ok m=>(m,0,1)
 | .error e=>e
def QD(l:List Op3)(n:Int):vr :=
 if n<0\/1099511627776<n\/l.any Xr=true then (0,0,0) else ZcW (XJ l.reverse n)
theorem vE(o:Op3):∀(p:List Op3)(n:Int),XJ (p++[o]) n=match XJ p n with|.ok t=>XN o t|.error e=>.error e:=by
 intro p
 induction p with
 | nil=>intro n;simp only[List.nil_append,XJ];cases XN o n<;>rfl
 | cons x p ih =>
  intro n;simp only[List.cons_append,XJ]
  cases XN x n with
  | ok t=>exact ih t
  | error e=>rfl
theorem yI{e:vr}:∀(p q:List Op3)(n:Int),XJ p n=.error e->XJ (p++q) n=.error e:=by
 intro p
 induction p with
 | nil=>intro q n h;simp[XJ] at h
 | cons x p ih =>
  intro q n h;simp only[List.cons_append,XJ] at h ⊢
  cases hs:XN x n with
  | ok t=>rw[hs] at h;exact ih q t h
  | error e'=>rw[hs] at h;exact h
theorem zc{o:Op3}{n t:Int}(f:Xr o=false)(g:0<=n)(m:n<=1099511627776)(hb:¬(n=0/\XX o=true))(h:X7 o n=some t):0<=t/\t<=1099511627776:=by
 obtain⟨k,N,d⟩:=o;unfold X7 at h;simp only[Xr,XX] at f hb h;split at h
 .rename_i h3
  rw[Yw (Or.inl h3)] at f;have j:1<=N:=by simp at f;omega
  have:=KR g j;injection h with h;omega
 split at h
 .rename_i h4
  rw[Yw (Or.inr h4)] at f;have j:1<=N:=by simp at f;omega
  have:=Int.mul_nonneg g (show 0<=N by omega);split at h
  .injection h with h;omega
  cases h
 split at h
 .rename_i h68
  injection h with h
  simp[h68] at hb;omega
 split at h
 .split at h
  .injection h with h;omega
  cases h
 injection h with h;omega
def T3i(a:vr):Value:=.tuple #[.int .i64 a.1,.int .i64 a.2.1,.int .i64 a.2.2]
theorem ZdX{P:Op3->Bool}{l:List Op3}{o:Op3}(h:l.any P=false)(f:o∈l):P o=false:=by
 cases hp:P o with
 | false=>rfl
 | true=>rw[List.any_eq_true.2 ⟨o,f,hp⟩] at h;cases h
theorem YB{W w1:World}{v:Value}(hb:Below W.1.size W w1)(h:Boxed W B t v):Boxed w1 B t v:=(hb.block _ h.lt).trans h
theorem GB{b:Nat}{f g j:Value}(h:w.1[b]?=some (.cells #[f,g,j] t (0,0))) :
  (w.cell? ⟨b,0,none⟩=some f/\w.cell? ⟨b,1,none⟩=some g/\w.cell? ⟨b,2,none⟩=some j)/\b<w.1.size:=by
 refine⟨⟨?_,?_,?_⟩,(Array.getElem?_eq_some_iff.1 h).1⟩<;>simp[World.cell?,h]
theorem GQ{ta tb tc:TypeId}{v1 v2 v3:Value}(y1:Boxed W (w.1.size+1) ta v1)(y2:Boxed W (w.1.size+1+1) tb v2)(y3:Boxed W (w.1.size+1+1+1) tc v3)(hb:Below w.1.size w W)(u1 u2 u3:Value) :
  ((Boxed (((W.setCell ⟨w.1.size+1,0,none⟩ u1).setCell ⟨w.1.size+1+1,0,none⟩ u2).setCell ⟨w.1.size+1+1+1,0,none⟩ u3) (w.1.size+1) ta u1 /\
   Boxed (((W.setCell ⟨w.1.size+1,0,none⟩ u1).setCell ⟨w.1.size+1+1,0,none⟩ u2).setCell ⟨w.1.size+1+1+1,0,none⟩ u3) (w.1.size+1+1) tb u2) /\
   Boxed (((W.setCell ⟨w.1.size+1,0,none⟩ u1).setCell ⟨w.1.size+1+1,0,none⟩ u2).setCell ⟨w.1.size+1+1+1,0,none⟩ u3) (w.1.size+1+1+1) tc u3) /\
  Below w.1.size w (((W.setCell ⟨w.1.size+1,0,none⟩ u1).setCell ⟨w.1.size+1+1,0,none⟩ u2).setCell ⟨w.1.size+1+1+1,0,none⟩ u3) /\
  KeepsOthers W (((W.setCell ⟨w.1.size+1,0,none⟩ u1).setCell ⟨w.1.size+1+1,0,none⟩ u2).setCell ⟨w.1.size+1+1+1,0,none⟩ u3) :=
 ⟨⟨⟨((y1.set u1).other oz u2).other oz u3,(((y2.other oz u1).set u2).other oz u3)⟩,(((y3.other oz u1).other oz u2).set u3)⟩,
  ((hb.setCell (p:=⟨w.1.size+1,0,none⟩) (by simp) _).setCell (p:=⟨w.1.size+1+1,0,none⟩) (by simp;omega) _).setCell (p:=⟨w.1.size+1+1+1,0,none⟩) (by simp;omega) _,
  ((KeepsOthers.setCell _ _ _).trans (KeepsOthers.setCell _ _ _)).trans (KeepsOthers.setCell _ _ _)⟩
theorem Ur{W w2:World}(hb2:Below W.1.size W w2)(B:Nat):KeepsFrom B W w2:=⟨hb2.size,fun k o _ hk _=>(hb2.block k (lt_of_block hk)).trans hk⟩
def BI(w:World)(l:List Op3)(n0:Int)(pre:List (BX l))(W:World):Prop :=
 ∃m:Int,(((Boxed W w.1.size 2 (.int .i64 m)/\Boxed W (w.1.size+1) 2 (.int .i64 0))/\Boxed W (w.1.size+1+1) 2 (.int .i64 0))/\Boxed W (w.1.size+1+1+1) 3 (.int .i64 0))/\Below w.1.size w W/\(0<=m/\m<=1099511627776/\XJ (pre.map (·.o)) n0=.ok m)
def BIx(w:World)(l:List Op3)(n0:Int)(c:Code)(pre:List (BX l))(W:World):Prop :=
 ∃x y z:Int,((Boxed W (w.1.size+1) 2 (.int .i64 x)/\Boxed W (w.1.size+1+1) 2 (.int .i64 y))/\Boxed W (w.1.size+1+1+1) 3 (.int .i64 z))/\Below w.1.size w W/\(c=.ret/\XJ (pre.map (·.o)) n0=.error (x,y,z))
theorem ZfI(h:w.1.size<=W0.1.size)(l:List Op3)(C:Int):OwnFrom W0.1.size (BI w l C):=by
 intro pre X Y row A g f;obtain⟨m,⟨⟨⟨j,q⟩,v⟩,x⟩,y,z⟩:=A;exact⟨m,⟨⟨⟨boxed_own _ _ (fun(_:Unit)=>Value.int .i64 m) () X Y row j g (fun r e=>(f r e).2),boxed_own _ _ (fun(_:Unit)=>Value.int .i64 0) () X Y row q g (fun r e=>(f r e).2)⟩,
  boxed_own _ _ (fun(_:Unit)=>Value.int .i64 0) () X Y row v g (fun r e=>(f r e).2)⟩,boxed_own _ _ (fun(_:Unit)=>Value.int .i64 0) () X Y row x g (fun r e=>(f r e).2)⟩,
  ownFrom_below (β:=Unit) (Yr _) h () X Y row y g f,z⟩
theorem Zd5(h:w.1.size<=W0.1.size)(l:List Op3)(D:Int)(c:Code):OwnFrom W0.1.size (BIx w l D c):=by
 intro pre X Y row C g f;obtain⟨x,y,z,⟨⟨j,m⟩,q⟩,v,A⟩:=C;exact⟨x,y,z,⟨⟨boxed_own _ _ (fun(_:Unit)=>Value.int .i64 x) () X Y row j g (fun r e=>(f r e).2),boxed_own _ _ (fun(_:Unit)=>Value.int .i64 y) () X Y row m g (fun r e=>(f r e).2)⟩,
  boxed_own _ _ (fun(_:Unit)=>Value.int .i64 z) () X Y row q g (fun r e=>(f r e).2)⟩,
  ownFrom_below (β:=Unit) (Yr _) h () X Y row v g f,A⟩
theorem bZ021{p:Prop}(h:p:=by repeat (first|(with_reducible exact Below.refl _ _)|((with_reducible refine YZ ?_ ?_ _);(rotate_left;focus (first|omega|(simp;done)|(simp;omega))))|((with_reducible refine Below.alloc ?_ ?_ _);(rotate_left;focus (first|omega|(simp;done)|(simp;omega))))|(with_reducible refine below_drewN ?_ _)|(with_reducible refine Below.drew ?_)|((with_reducible refine Below.trans ?_ (Below.mono hb1 ?_));(rotate_left;focus (first|omega|(simp;done)|(simp;omega)))))):p:=h
theorem Zd4(l:List Op3)(a:Option Addr)(cap:Nat)(n:Int)(w:World)(hl:l.length<=9223372036854775807)(I:OpA w a l)(h:n<0\/1099511627776<n\/l.any Xr=true) :
  Calls prog 87 #[.slice a l.length cap,.int .i64 n] w fun e w'=>e=.returned (T3i (0,0,0))/\Below w.1.size w w':=by
 by_cases X:n<0
 .clear h I;go_enter func87,ntmps87;go_wp2;exact bodyPost_ret (v:=T3i (0,0,0)) (by simp only[results,results87];go_simp;rfl) rfl ⟨rfl,bZ020⟩
 have aa:decide (n<0)=false:=Yu X;by_cases Z:1099511627776<n
 .clear h X I;go_enter func87,ntmps87;go_wp2;exact bodyPost_ret (v:=T3i (0,0,0)) (by simp only[results,results87];go_simp;rfl) rfl ⟨rfl,bZ020⟩
 have ab:decide (1099511627776<n)=false:=Yu Z;have hw:l.any Xr=true:=by rcases h with h|h|h<;>first|exact h|omega
 have Y:=Lib.hid (fun w I=>Jp l a cap w hl I);rw[hw] at Y;have HA:=Lib.hid I;clear h X Z I;go_enter func87,ntmps87;go_wp2_with (go_at_call 150;(with_reducible refine(Y.out _ (HA.out.below (B:=w.1.size) bZ020 (Yr _))).mono ?_);rintro e q ⟨rfl,hb1⟩;obtain⟨x,y⟩:=YE hb1;have J:=fun o=>x (w.1.size) o oz;have R:=fun o=>y (w.1.size) o oz;have E:w.1.size<q.1.size:=Ys oz hb1.size;have f:=Nat.lt_succ_of_lt E;have z:=Nat.lt_succ_of_lt f;have f:w.1.size<q.1.size+1:=f;have z:w.1.size<q.1.size+1+1:=z;have L:=fun o=>x (w.1.size+1) o oz;have T:=fun o=>y (w.1.size+1) o oz;have F:w.1.size+1<q.1.size:=Ys oz hb1.size;have g:=Nat.lt_succ_of_lt F;have A:=Nat.lt_succ_of_lt g;have g:w.1.size+1<q.1.size+1:=g;have A:w.1.size+1<q.1.size+1+1:=A;have M:=fun o=>x (w.1.size+1+1) o oz;have U:=fun o=>y (w.1.size+1+1) o oz;have G:w.1.size+1+1<q.1.size:=Ys oz hb1.size;have j:=Nat.lt_succ_of_lt G;have C:=Nat.lt_succ_of_lt j;have j:w.1.size+1+1<q.1.size+1:=j;have C:w.1.size+1+1<q.1.size+1+1:=C;have O:=fun o=>x (w.1.size+1+1+1) o oz;have V:=fun o=>y (w.1.size+1+1+1) o oz;have H:w.1.size+1+1+1<q.1.size:=Ys oz hb1.size;have m:=Nat.lt_succ_of_lt H;have D:=Nat.lt_succ_of_lt m;have m:w.1.size+1+1+1<q.1.size+1:=m;have D:w.1.size+1+1+1<q.1.size+1+1:=D;clear x y);exact bodyPost_ret (v:=T3i (0,0,0)) (by simp only[results,results87];go_simp;rfl) rfl ⟨rfl,bZ021⟩
theorem ZbF(l:List Op3)(a:Option Addr)(cap:Nat)(n:Int)(w:World)(hl:l.length<=9223372036854775807)(hA:OpA w a l)(h0:0<=n)(h1:n<=1099511627776)(hw:l.any Xr=false) :
  Calls prog 87 #[.slice a l.length cap,.int .i64 n] w fun e w'=>e=.returned (T3i (QD l n))/\Below w.1.size w w':=by
 have hP:QD l n=ZcW (XJ l.reverse n):=by unfold QD;rw[Yv (by rw[hw];simp;omega)]
 have ag:=Lib.hid hP;have HC:=Lib.hid (fun w hA=>Jp l a cap w hl hA);rw[hw] at HC;have HA:=Lib.hid hA;have HW:=Lib.hid hw;clear hA hw hP;have d0:decide (n<0)=false:=Yu oz;have d1:decide (1099511627776<n)=false:=Yu oz;refine(callsIn_wide (n:=6)).1 ?_;refine callsIn_of_wp_marks func87 rfl trivial ?_ rfl;simp only[ntmps87,List.size_toArray,List.length_cons,List.length_nil,Nat.reduceAdd,Nat.reduceSub,Array.replicate_succ,Array.replicate_zero,List.push_toArray,List.append_toArray,List.nil_append,List.cons_append];gi_wp2_with (first|(refine⟨trivial,?_⟩;gi_at_call 150;(refine(callsIn_wide.2 (HC.out _ (HA.out.below (B:=w.1.size) bZ020 (Yr _)))).mono ?_);rintro e w1 ⟨rfl,hb1⟩;have HB1:=Lib.hid hb1;clear hb1)|(refine⟨trivial,?_⟩;gi_at_call 152;refine(callsIn_wide.2 (yK _ _ _)).mono ?_;rintro e w' ⟨rfl,rfl⟩));have bN:=(((((Boxed.new w 2 (.int .i64 n)).alloc (.cells #[.int .i64 0] 2)).alloc (.cells #[.int .i64 0] 2)).alloc (.cells #[.int .i64 0] 3)));have b1:=((Boxed.new (w.alloc (.cells #[.int .i64 n] 2)) 2 (.int .i64 0)).alloc (.cells #[.int .i64 0] 2)).alloc (.cells #[.int .i64 0] 3);have b2:=(Boxed.new ((w.alloc (.cells #[.int .i64 n] 2)).alloc (.cells #[.int .i64 0] 2)) 2 (.int .i64 0)).alloc (.cells #[.int .i64 0] 3);have b3:=Boxed.new (((w.alloc (.cells #[.int .i64 n] 2)).alloc (.cells #[.int .i64 0] 2)).alloc (.cells #[.int .i64 0] 2)) 3 (.int .i64 0);simp only[World.size_alloc] at b1 b2 b3;have hb1:=HB1.out;have s1:=hb1.size;simp only[World.size_alloc] at s1;have ak:=(YB hb1 bN).alloc (.cells #[.slice a l.length cap] 90);have ah:=(YB hb1 b1).alloc (.cells #[.slice a l.length cap] 90);have ai:=(YB hb1 b2).alloc (.cells #[.slice a l.length cap] 90);have aj:=(YB hb1 b3).alloc (.cells #[.slice a l.length cap] 90);have bS:=Boxed.new w1 90 (.slice a l.length cap);have ae:Below w.1.size w (w1.alloc (.cells #[.slice a l.length cap] 90)):=bZ021;have ap:(w1.alloc (.cells #[.slice a l.length cap] 90)).1.size=w1.1.size+1:=by simp
 obtain⟨Bs,al⟩:∃Bs,w1.1.size=Bs:=⟨_,rfl⟩;obtain⟨W0,an⟩:∃W0,w1.alloc (.cells #[.slice a l.length cap] 90)=W0:=⟨_,rfl⟩;rw[an] at ak ah ai aj bS ae ap ⊢;rw[al] at s1 ap bS ⊢;clear an al HB1 hb1 bN b1 b2 b3;have ac:w.1.size<=W0.1.size:=oz;refine wpIn_rangeFunc_ownH (encs:=fun x:BX l=>#[.int .i64 x.i,.agg #[.int .i64 x.k,.int .i64 x.n,.int .i64 x.d]]) rfl oz (gf:=201) (lb:=#[.pointer (some ⟨Bs,0,none⟩)]) rfl trivial (enters_of func201 kz rfl)
  (Eh (W0:=w) Fence.wide rfl trivial rfl _ Bs l a cap hl HA.out W0 ae bS) (fun h k=>h.trans k) (fun W p o o' hl h hc _=>KB.putObj W p o o' oz h hc) (Below.refl _ _) (fun _=>rfl)
  (BI w l n) (BIx w l n) (ZfI ac l n) (Zd5 ac l n) ⟨n,⟨⟨⟨ak,ah⟩,ai⟩,aj⟩,ae,h0,h1,rfl⟩
  (fun x a' W=>∃Bx,w.1.size+1+1+1<Bx/\W.1[Bx]?=some (.cells #[.int .i64 x.k,.int .i64 x.n,.int .i64 x.d] 183 (0,0)) /\
   a'={ tmps:=#[.slice a l.length cap,.int .i64 n,undef,.pointer (some ⟨w.1.size,0,none⟩),.pointer (some ⟨w.1.size+1,0,none⟩),.pointer (some ⟨w.1.size+1+1,0,none⟩),.pointer (some ⟨w.1.size+1+1+1,0,none⟩),undef,.pointer (some ⟨Bx,0,none⟩),undef,undef,
    .int .i64 n,.bool false,.bool false,.int .i64 n,.bool false,.bool false,.bool false,.slice a l.length cap,.bool false,.bool false,.slice a l.length cap,
    .func (.func 201) #[] #[.pointer (some ⟨Bs,0,none⟩)],.int .i64 x.i,.agg #[.int .i64 x.k,.int .i64 x.n,.int .i64 x.d],undef,undef,undef,undef,undef,undef,undef,undef,undef,undef,undef,undef,undef,undef,undef,undef,undef,undef],defers:=[] })
  (fun x a' _ X Y row hs hg hrw=>by
   obtain⟨Bx,h1,h2,h3⟩:=hs;refine⟨Bx,h1,(hg.block Bx (Array.getElem?_eq_some_iff.1 h2).1 (fun e=>?_)).trans h2,h3⟩;obtain⟨_,o,ho,hc⟩:=hrw Bx e.symm;rw[h2] at ho;cases ho;cases hc)
  ?assign ?body ?done ?stop
 case assign =>
  rintro p pre x W K ⟨m,⟨⟨⟨c0,c1⟩,c2⟩,c3⟩,f,hm⟩ hK;gi_wp2;exact hK _ _ ((KeepsOthers.alloc _ _).from _) ((KB.refl _ _ W).alloc f.size _) ⟨m,⟨⟨⟨c0.alloc _,c1.alloc _⟩,c2.alloc _⟩,c3.alloc _⟩,f.alloc f.size _,hm⟩ ⟨W.1.size,c3.lt,lite.Yx W _,rfl⟩
 case body =>
  rintro p pre ⟨i,k,N,d,ab⟩ a' W ba ⟨r,hr⟩ ⟨m,⟨⟨⟨c0,c1⟩,c2⟩,c3⟩,f,J,L,q⟩ ⟨Bx,az,R,rfl⟩ bb;simp only at R;obtain⟨⟨x0,x1,x2⟩,xl⟩:=GB R;have aa:=ZdX HW.out ab;have o0:=c0.cell;have bc:=c0.frozen;have o1:=c1.cell;have au:=c1.frozen;have o2:=c2.cell;have av:=c2.frozen;have o3:=c3.cell;have aw:=c3.frozen;have g:=f.size;have M:XJ ((pre++[(⟨i,k,N,d,ab⟩:BX l)]).map (·.o)) n=XN (k,N,d) m:=by rw[List.map_append,List.map_cons,List.map_nil,vE,q];rfl
  have I:=Lib.hid M;have ay:=Lib.hid q;clear M q;by_cases af:m=0
  .subst af;have H:=Lib.hid (fun w=>vF k N d w)
   cases hbg:XX (k,N,d) with
   | true =>
    rw[hbg] at H;have hE:Hid (XN (k,N,d) 0=.error (0,N,2)):=by unfold XN;exact Yw ⟨rfl,hbg⟩
    gi_wp2_with (refine⟨trivial,?_⟩;gi_at_call 153;refine(CallsIn.inRound p (callsIn_wide.2 (H.out _))).mono ?_;rintro e w2 ⟨rfl,hb2⟩;have Z:=YB hb2 c0;have T:=YB hb2 c1;have U:=YB hb2 c2;have V:=YB hb2 c3;have q0:=Z.cell;have q1:=T.cell;have q2:=U.cell;have q3:=V.cell;have g0:=Z.frozen;have g1:=T.frozen;have g2:=U.frozen;have g3:=V.frozen;have v:=(hb2.block _ xl).trans R;obtain⟨⟨u0,u1,u2⟩,ul⟩:=GB v);gi_region
    all_goals
     have S3:=GQ T U V (f.trans (hb2.mono g)) (.int .i64 0) (.int .i64 N) (.int .i64 2);gi_wp2;exact⟨((Ur hb2 _).trans (S3.2.2.from _)).trans ((KeepsOthers.drew _).from _),0,N,2,S3.1,S3.2.1.drew,rfl,I.out.trans hE.out⟩
   | false =>
    rw[hbg] at H;have hbn:¬((0:Int)=0/\XX (k,N,d)=true):=fun h=>by rw[hbg] at h;exact Bool.noConfusion h.2
    have j:=Lib.hid (fun w=>Ej k N d 0 w aa J L hbn)
    cases hst:X7 (k,N,d) 0 with
    | some t =>
     rw[hst] at j;have hE:Hid (XN (k,N,d) 0=.ok t):=by unfold XN;rw[Yv hbn,hst];exact rfl
     have O:=zc aa J L hbn hst;gi_wp2_with (first|(refine⟨trivial,?_⟩;gi_at_call 153;refine(CallsIn.inRound p (callsIn_wide.2 (H.out _))).mono ?_;rintro e w2 ⟨rfl,hb2⟩;have Z:=YB hb2 c0;have T:=YB hb2 c1;have U:=YB hb2 c2;have V:=YB hb2 c3;have q0:=Z.cell;have q1:=T.cell;have q2:=U.cell;have q3:=V.cell;have g0:=Z.frozen;have g1:=T.frozen;have g2:=U.frozen;have g3:=V.frozen;have v:=(hb2.block _ xl).trans R;obtain⟨⟨u0,u1,u2⟩,ul⟩:=GB v)|(refine⟨trivial,?_⟩;gi_at_call 154;refine(CallsIn.inRound p (callsIn_wide.2 (j.out _))).mono ?_;rintro e w3 ⟨he,hb3⟩;obtain rfl:e=.returned (.tuple #[.int .i64 t,.bool true]):=he;have G:=YB hb3 Z;have A:=YB hb3 T;have C:=YB hb3 U;have E:=YB hb3 V;have r0:=G.cell;have r1:=A.cell;have r2:=C.cell;have r3:=E.cell;have t0:=G.frozen;have t1:=A.frozen;have t2:=C.frozen;have t3:=E.frozen));exact⟨((Ur hb2 _).trans (Ur hb3 _)).trans ((KeepsOthers.setCell _ _ _).from _),(((KB.refl _ _ _).of_below hb2 g).of_below hb3 (Nat.le_trans g hb2.size)).setCell (Yr _) oz _,t,⟨⟨⟨G.set _,A.other oz _⟩,C.other oz _⟩,E.other oz _⟩,((f.trans (hb2.mono g)).trans (hb3.mono (Nat.le_trans g hb2.size))).setCell (p:=⟨w.1.size,0,none⟩) (by simp) _,O.1,O.2,I.out.trans hE.out⟩
    | none =>
     rw[hst] at j;have hE:Hid (XN (k,N,d) 0=.error (0,0,0)):=by unfold XN;rw[Yv hbn,hst];exact rfl
     gi_wp2_with (first|(refine⟨trivial,?_⟩;gi_at_call 153;refine(CallsIn.inRound p (callsIn_wide.2 (H.out _))).mono ?_;rintro e w2 ⟨rfl,hb2⟩;have Z:=YB hb2 c0;have T:=YB hb2 c1;have U:=YB hb2 c2;have V:=YB hb2 c3;have q0:=Z.cell;have q1:=T.cell;have q2:=U.cell;have q3:=V.cell;have g0:=Z.frozen;have g1:=T.frozen;have g2:=U.frozen;have g3:=V.frozen;have v:=(hb2.block _ xl).trans R;obtain⟨⟨u0,u1,u2⟩,ul⟩:=GB v)|(refine⟨trivial,?_⟩;gi_at_call 154;refine(CallsIn.inRound p (callsIn_wide.2 (j.out _))).mono ?_;rintro e w3 ⟨he,hb3⟩;obtain⟨tt,rfl⟩:∃t,e=.returned (.tuple #[.int .i64 t,.bool false]):=he;have G:=YB hb3 Z;have A:=YB hb3 T;have C:=YB hb3 U;have E:=YB hb3 V;have r0:=G.cell;have r1:=A.cell;have r2:=C.cell;have r3:=E.cell;have t0:=G.frozen;have t1:=A.frozen;have t2:=C.frozen;have t3:=E.frozen));have S3:=GQ A C E ((f.trans (hb2.mono g)).trans (hb3.mono (Nat.le_trans g hb2.size))) (.int .i64 0) (.int .i64 0) (.int .i64 0);exact⟨((Ur hb2 _).trans (Ur hb3 _)).trans (S3.2.2.from _),0,0,0,S3.1,S3.2.1,rfl,I.out.trans hE.out⟩
  have ax:(m == 0)=false:=Yt.2 af;have hbn:¬(m=0/\XX (k,N,d)=true):=fun h=>af h.1
  have j:=Lib.hid (fun w=>Ej k N d m w aa J L hbn)
  cases hst:X7 (k,N,d) m with
  | some t =>
   rw[hst] at j;have hE:Hid (XN (k,N,d) m=.ok t):=by unfold XN;rw[Yv hbn,hst];exact rfl
   have O:=zc aa J L hbn hst;gi_wp2;refine⟨trivial,?_⟩;gi_wp2_with (refine⟨trivial,?_⟩;gi_at_call 154;refine(CallsIn.inRound p (callsIn_wide.2 (j.out _))).mono ?_;rintro e w3 ⟨he,hb3⟩;obtain rfl:e=.returned (.tuple #[.int .i64 t,.bool true]):=he;have G:=YB hb3 c0;have A:=YB hb3 c1;have C:=YB hb3 c2;have E:=YB hb3 c3;have r0:=G.cell;have r1:=A.cell;have r2:=C.cell;have r3:=E.cell;have t0:=G.frozen;have t1:=A.frozen;have t2:=C.frozen;have t3:=E.frozen);exact⟨(Ur hb3 _).trans ((KeepsOthers.setCell _ _ _).from _),((KB.refl _ _ _).of_below hb3 g).setCell (Yr _) oz _,t,⟨⟨⟨G.set _,A.other oz _⟩,C.other oz _⟩,E.other oz _⟩,(f.trans (hb3.mono g)).setCell (p:=⟨w.1.size,0,none⟩) (by simp) _,O.1,O.2,I.out.trans hE.out⟩
  | none =>
   rw[hst] at j;have hE:Hid (XN (k,N,d) m=.error (0,0,0)):=by unfold XN;rw[Yv hbn,hst];exact rfl
   gi_wp2;refine⟨trivial,?_⟩;gi_wp2_with (refine⟨trivial,?_⟩;gi_at_call 154;refine(CallsIn.inRound p (callsIn_wide.2 (j.out _))).mono ?_;rintro e w3 ⟨he,hb3⟩;obtain⟨tt,rfl⟩:∃t,e=.returned (.tuple #[.int .i64 t,.bool false]):=he;have G:=YB hb3 c0;have A:=YB hb3 c1;have C:=YB hb3 c2;have E:=YB hb3 c3;have r0:=G.cell;have r1:=A.cell;have r2:=C.cell;have r3:=E.cell;have t0:=G.frozen;have t1:=A.frozen;have t2:=C.frozen;have t3:=E.frozen);have S3:=GQ A C E (f.trans (hb3.mono g)) (.int .i64 0) (.int .i64 0) (.int .i64 0);exact⟨(Ur hb3 _).trans (S3.2.2.from _),0,0,0,S3.1,S3.2.1,rfl,I.out.trans hE.out⟩
 case done =>
  rintro D zs W hD ar ⟨m,⟨⟨⟨c0,c1⟩,c2⟩,c3⟩,f,J,L,q⟩ hK;have F:QD l n=(m,0,1):=by rw[ag.out,<-ar,q];rfl
  have o0:=c0.cell;have o1:=c1.cell;have au:=c1.frozen;have o2:=c2.cell;have av:=c2.frozen;have o3:=c3.cell;have aw:=c3.frozen;have aq:=Lib.hid F;clear F q;gi_wp2;have S3:=GQ c1 c2 c3 f (.int .i64 m) (.int .i64 0) (.int .i64 1);have am:=S3.2.2.same D _ hK rfl;refine⟨by simp,.inl ⟨_,_,rfl,run_takeDeferred am,?_⟩⟩;have e1:=(S3.1.1.1.kept (grownBy_putObj' _ D (.deferred none)) (by intro e;injection e with e;omega)).cell;have e2:=(S3.1.1.2.kept (grownBy_putObj' _ D (.deferred none)) (by intro e;injection e with e;omega)).cell;have e3:=(S3.1.2.kept (grownBy_putObj' _ D (.deferred none)) (by intro e;injection e with e;omega)).cell;refine⟨T3i (m,0,1),?_,?_,?_⟩
  .simp only[results,results87];go_simp;rfl
  .rw[aq.out]
  exact S3.2.1.trans (KB.putObj (n₀:=w.1.size) (Bs:=Bs) _ D _ _ oz am rfl).below
 rintro D c pre W hD ao ⟨x,y,z,⟨⟨c1,c2⟩,c3⟩,f,rfl,q⟩ hK;have F:QD l n=(x,y,z):=by
  obtain⟨t,ht⟩:=ao;rw[ag.out,<-ht,yI _ _ _ q];rfl
 gi_wp2;refine⟨by simp,.inl ⟨_,_,rfl,run_takeDeferred hK,?_⟩⟩;have e1:=(c1.kept (grownBy_putObj' _ D (.deferred none)) (by intro e;injection e with e;omega)).cell;have e2:=(c2.kept (grownBy_putObj' _ D (.deferred none)) (by intro e;injection e with e;omega)).cell;have e3:=(c3.kept (grownBy_putObj' _ D (.deferred none)) (by intro e;injection e with e;omega)).cell;refine⟨T3i (x,y,z),?_,?_,?_⟩
 .simp only[results,results87];go_simp;rfl
 .rw[F]
 exact f.trans (KB.putObj (n₀:=w.1.size) (Bs:=Bs) _ D _ _ oz hK rfl).below
theorem ZbE(l:List Op3)(a:Option Addr)(cap:Nat)(n:Int)(w:World)(g:l.length<=9223372036854775807)(f:OpA w a l) :
  Calls prog 87 #[.slice a l.length cap,.int .i64 n] w fun e w'=>e=.returned (T3i (QD l n))/\Below w.1.size w w':=by
 by_cases h:n<0\/1099511627776<n\/l.any Xr=true
 .rw[show QD l n=(0,0,0) by unfold QD;rw[Yw h]];exact Zd4 l a cap n w g f h
 exact ZbF l a cap n w g f oz oz (by cases hw:l.any Xr with|false=>rfl|true=>exact absurd (Or.inr (Or.inr hw)) h)
